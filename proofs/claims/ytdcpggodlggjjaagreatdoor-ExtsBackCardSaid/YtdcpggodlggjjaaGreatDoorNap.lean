/- The document's Parts and Same. -/
import Derived.Test.YtdcpggodlggjjaaGreatDoorKa
import Derived.Test.YtdcpggodlggjjaaGreatDoorProg
import Derived.Test.YtdcpggodlggjjaaGreatDoorIa
import Derived.RegionTactic
import Derived.Deep.QuietTactic
import Derived.Deep.LoopGhost
import Derived.StillTailTactics
import Derived.Deep.Heap
namespace Go.Proofs.YtdcpggodlggjjaaGreatDoor.ndc
open Go.RowKit Go.Proofs.YtdcpggodlggjjaaGreatDoor.tlvc Go.Proofs.YtdcpggodlggjjaaGreatDoor.intc
set_option linter.unusedVariables false
set_option maxRecDepth 100000 in
set_option maxHeartbeats 4000000 in
theorem parts_of {B : Nat → Prop} : ∀ (N : Nat) (n : Nd), szN n ≤ N → ∀ (v : Value) (most : Int) (w : World), NdV B w n v → 0 ≤ most → most ≤ 20000 →
    Calls Tryz.prog 12 #[v, .int .i64 most] w fun e w' => e = .returned (.int .i64 (partsF n most)) ∧ Below w.heap.size w w'
  | 0, .mk t b ks, h, _, _, _, _, _, _ => by unfold szN at h; omega
  | N + 1, .mk t b ks, h, v, most, w, hv, h0, h1 => by
    obtain ⟨c0, c1, c2, rfl, hc⟩ := hv
    unfold NdC at hc
    obtain ⟨rfl, ht, ⟨A, la, ca, rfl, hA1, hA2, hA3, _⟩, K, ck, rfl, hK1, hK2, hK3⟩ := hc
    unfold szN at h
    have ih : ∀ k ∈ ks, ∀ (v : Value) (most : Int) (w : World), NdV B w k v → 0 ≤ most → most ≤ 20000 → Calls Tryz.prog 12 #[v, .int .i64 most] w fun e w' => e = .returned (.int .i64 (partsF k most)) ∧ Below w.heap.size w w' := fun k hk => parts_of N k (by have := szL_mem hk; omega)
    have ibd : ∀ k ∈ ks, ∀ m, 0 ≤ m → 1 ≤ partsF k m ∧ partsF k m ≤ m + 1 := fun k hk => partsF_bd N k (by have := szL_mem hk; omega)
    obtain ⟨ANS, hANS⟩ : ∃ x, partsF (.mk t b ks) most = x := ⟨_, rfl⟩
    rw [hANS]
    unfold partsF at hANS
    have IH := Lib.hid ih
    have IBD := Lib.hid ibd
    have HK3 := Lib.hid hK3
    have HA3 := Lib.hid hA3
    obtain ⟨len, hlen⟩ : ∃ x, ks.length = x := ⟨_, rfl⟩
    rw [hlen] at hK1 ⊢
    have hK9 : ck ≤ 9223372036854775807 := by unfold maxLen at hK2; omega
    clear ih ibd hA3 hK3 parts_of
    go_enter Tryz.func12, Tryz.ntmps12
    go_wp2_with fail
    go_loopg [5, 6] (len + 1) (fun gk s5 s6 wx => ∃ (i : Nat) (k : Int), s5 = .int .i64 k ∧ s6 = .int .i64 i ∧ i ≤ len ∧ len - i < gk ∧ 1 ≤ k ∧ k ≤ most + 1 ∧ Hid (partsL (ks.drop i) most k = ANS) ∧ Below (w.heap.size + 1) (w.alloc (.cells #[.int .u8 t, .slice A la ca, .slice K len ck] 33)) wx)
    case atStart => exact ⟨0, 1, rfl, rfl, by omega, by omega, by omega, by omega, Lib.hid hANS, Below.refl _ _⟩
    case round =>
      obtain ⟨i, k, rfl, rfl, hi, hgk, hk1, hk2, hq, hbel⟩ := hrel
      have hf2 : wr.cell? ⟨w.heap.size, 2, none⟩ = some (.slice K len ck) := by
        rw [hbel.cell (p := ⟨w.heap.size, 2, none⟩) (by show w.heap.size < w.heap.size + 1; omega), World.cell?_alloc_mark]; rfl
      have hbw : Below w.heap.size w wr := ((Below.refl _ _).alloc (Nat.le_refl _) _).trans (hbel.mono (Nat.le_succ _))
      by_cases hlt : i < len
      · have hltz : (i : Int) < (len : Int) := by omega
        by_cases hkm : k ≤ most
        · obtain ⟨gk', rfl⟩ : ∃ g', gk = g' + 1 := ⟨gk - 1, by omega⟩
          obtain ⟨g, off, rfl, hg, hBg, hks⟩ := HK3.out (by omega)
          obtain ⟨d0, d1, d2, e0, e1, e2, hd⟩ := (KidsC.below hbw hg hBg ks off hks).at i (by omega)
          clear hks
          have hmem : ks[i] ∈ ks := List.getElem_mem _
          have hpb := IBD.out _ hmem (most - k) (by omega)
          have ih := IH.out _ hmem (.agg #[d0, d1, d2]) (most - k) wr ⟨d0, d1, d2, rfl, hd⟩ (by omega) (by omega)
          have hstep : partsL (ks.drop i) most k = partsL (ks.drop (i + 1)) most (k + partsF ks[i] (most - k)) := by
            rw [List.drop_eq_getElem_cons (by omega)]
            conv => lhs; unfold partsL
            rw [if_pos hkm]
          have hq2 := hq.out
          rw [hstep] at hq2
          obtain ⟨p, hp⟩ : ∃ x, partsF ks[i] (most - k) = x := ⟨_, rfl⟩
          rw [hp] at hpb ih hq2
          have IH2 := Lib.hid ih
          have Q2 := Lib.hid hq2
          have hw1 : IntKind.i64.wrap (most - k) = most - k := IntWalk.i64_in _ (by omega)
          have hw2 : IntKind.i64.wrap (k + p) = k + p := IntWalk.i64_in _ (by omega)
          have hpk : k + p ≤ most + 1 := by omega
          clear ih hq2 hstep hd hp hmem hq
          go_wp2_with fail
          refine IH2.out.mono ?_
          rintro e w2 ⟨rfl, hb2⟩
          have hbel2 : Below (w.heap.size + 1) (w.alloc (.cells #[.int .u8 t, .slice A la ca, .slice (some ⟨g, off, none⟩) len ck] 33)) w2 := hbel.trans (hb2.mono (by have := hbel.size; simpa using this))
          clear IH2 hb2 hbel hbw e0 e1 e2
          go_wp2
          go_roundg gk'
          case measure => omega
          case rel => exact ⟨i + 1, k + p, rfl, by go_num, by omega, by omega, by omega, hpk, Q2, hbel2⟩
        · have hkz : ¬ k ≤ most := hkm
          have hend : k = ANS := by
            rw [← hq.out, List.drop_eq_getElem_cons (by omega)]
            conv => rhs; unfold partsL
            rw [if_neg hkm]
          clear hq IH IBD HK3 HA3 hbel
          subst hend
          go_wp2
          go_ret
          exact ⟨rfl, hbw⟩
      · have hltz : ¬ (i : Int) < (len : Int) := by omega
        have hend : k = ANS := by
          rw [← hq.out, List.drop_eq_nil_of_le (by omega)]
          conv => rhs; unfold partsL
        clear hq IH IBD HK3 HA3 hbel
        subst hend
        go_wp2
        go_ret
        exact ⟨rfl, hbw⟩
set_option maxRecDepth 100000 in
set_option maxHeartbeats 8000000 in
theorem same_of {C1 C2 : Nat → Prop} : ∀ (N : Nat) (n m : Nd), szN n ≤ N → ∀ (v u : Value) (w : World), NdV C1 w n v → NdV C2 w m u →
    Calls Tryz.prog 11 #[v, u] w fun e w' => e = .returned (.bool (sameN n m)) ∧ Below w.heap.size w w'
  | 0, .mk t b ks, m, h, _, _, _, _, _ => by unfold szN at h; omega
  | N + 1, .mk t b ks, .mk t2 b2 ms, h, v, u, w, hv, hu => by
    obtain ⟨c0, c1, c2, rfl, hc⟩ := hv
    obtain ⟨d0, d1, d2, rfl, hd⟩ := hu
    unfold NdC at hc hd
    obtain ⟨rfl, ht, ⟨A, la, ca, rfl, hA1, hA2, hA3, _⟩, K, ck, rfl, hK1, hK2, hK3⟩ := hc
    obtain ⟨rfl, ht2, ⟨B, lb, cb, rfl, hB1, hB2, hB3, _⟩, M, cm, rfl, hM1, hM2, hM3⟩ := hd
    unfold szN at h
    have ih : ∀ k ∈ ks, ∀ (m : Nd) (v u : Value) (w : World), NdV C1 w k v → NdV C2 w m u → Calls Tryz.prog 11 #[v, u] w fun e w' => e = .returned (.bool (sameN k m)) ∧ Below w.heap.size w w' := fun k hk m => same_of N k m (by have := szL_mem hk; omega)
    have hsn : sameN (.mk t b ks) (.mk t2 b2 ms) = (decide (t = t2) && decide (b = b2) && decide (ks.length = ms.length) && sameL ks ms) := by unfold sameN; rfl
    rw [hsn]
    have hK9 : ck ≤ 9223372036854775807 := by unfold maxLen at hK2; omega
    have hM9 : cm ≤ 9223372036854775807 := by unfold maxLen at hM2; omega
    have IH := Lib.hid ih
    have HK3 := Lib.hid hK3
    have HM3 := Lib.hid hM3
    obtain ⟨len, hlen⟩ : ∃ x, ks.length = x := ⟨_, rfl⟩
    obtain ⟨len2, hlen2⟩ : ∃ x, ms.length = x := ⟨_, rfl⟩
    rw [hlen] at hK1 ⊢
    rw [hlen2] at hM1 ⊢
    clear ih hK3 hM3 same_of hsn
    have hcA := fun (W : World) (hb : Below w.heap.size w W) => str_now (hA3.below hb) ca
    have hcB := fun (W : World) (hb : Below w.heap.size w W) => str_now (hB3.below hb) cb
    have hbx : Below w.heap.size w ((w.alloc (.cells #[.int .u8 t, .slice A la ca, .slice K len ck] 33)).alloc (.cells #[.int .u8 t2, .slice B lb cb, .slice M len2 cm] 33)) := ((Below.refl _ _).alloc (Nat.le_refl _) _).alloc (by simp) _
    have sA := hcA _ hbx
    have sB := hcB _ hbx
    clear hcA hcB
    have hfA : Fit b := hA3.2.1
    have hfB : Fit b2 := hB3.2.1
    by_cases e1 : t = t2
    · subst e1
      rw [decide_eq_true rfl, Bool.true_and]
      by_cases e2 : b = b2
      · subst e2
        rw [decide_eq_true rfl, Bool.true_and]
        obtain ⟨S, hS⟩ : ∃ x, strOfNums b = x := ⟨_, rfl⟩
        rw [hS] at sA sB
        clear hS hfA hfB hA3 hB3
        by_cases e3 : len = len2
        · subst e3
          rw [decide_eq_true rfl, Bool.true_and]
          obtain ⟨ANS, hANS⟩ : ∃ x, sameL ks ms = x := ⟨_, rfl⟩
          rw [hANS]
          have HN := Lib.hid hANS
          clear hANS
          go_enter Tryz.func11, Tryz.ntmps11
          go_wp2_with fail
          obtain ⟨W0, hW0⟩ : ∃ x, (w.alloc (.cells #[.int .u8 t, .slice A la ca, .slice K len ck] 33)).alloc (.cells #[.int .u8 t, .slice B lb cb, .slice M len cm] 33) = x := ⟨_, rfl⟩
          have k1 : W0.cell? ⟨w.heap.size, 2, none⟩ = some (.slice K len ck) := by rw [← hW0, World.cell?_alloc_lt _ _ _ (by simp), World.cell?_alloc_mark]; rfl
          have k2 : W0.cell? ⟨w.heap.size + 1, 2, none⟩ = some (.slice M len cm) := by
            rw [← hW0]
            have := World.cell?_alloc_mark (w.alloc (.cells #[.int .u8 t, .slice A la ca, .slice K len ck] 33)) #[.int .u8 t, .slice B lb cb, .slice M len cm] 33 (0, 0) 2
            rw [show (w.alloc (.cells #[.int .u8 t, .slice A la ca, .slice K len ck] 33)).heap.size = w.heap.size + 1 by simp] at this
            rw [this]; rfl
          have hz : W0.heap.size = w.heap.size + 2 := by rw [← hW0]; simp
          rw [hW0] at hbx ⊢
          clear sA sB hW0
          go_loopg [5] (len + 1) (fun gk s5 wx => ∃ (i : Nat), s5 = .int .i64 i ∧ i ≤ len ∧ len - i < gk ∧ Hid (sameL (ks.drop i) (ms.drop i) = ANS) ∧ Below W0.heap.size W0 wx)
          case atStart => exact ⟨0, rfl, by omega, by omega, HN, Below.refl _ _⟩
          case round =>
            obtain ⟨i, rfl, hi, hgk, hq, hbel⟩ := hrel
            have f1 : wr.cell? ⟨w.heap.size, 2, none⟩ = some (.slice K len ck) := by rw [hbel.cell (p := ⟨w.heap.size, 2, none⟩) (by show w.heap.size < _; omega)]; exact k1
            have f2 : wr.cell? ⟨w.heap.size + 1, 2, none⟩ = some (.slice M len cm) := by rw [hbel.cell (p := ⟨w.heap.size + 1, 2, none⟩) (by show w.heap.size + 1 < _; omega)]; exact k2
            have hbw : Below w.heap.size w wr := hbx.trans (hbel.mono (by omega))
            by_cases hlt : i < len
            · have hltz : (i : Int) < (len : Int) := by omega
              obtain ⟨gk', rfl⟩ : ∃ g', gk = g' + 1 := ⟨gk - 1, by omega⟩
              obtain ⟨g, off, rfl, hg, hBg, hks⟩ := HK3.out (by omega)
              obtain ⟨g2, off2, rfl, hg2, hBg2, hms⟩ := HM3.out (by omega)
              obtain ⟨c0, c1, c2, p0, p1, p2, hc⟩ := (KidsC.below hbw hg hBg ks off hks).at i (by omega)
              obtain ⟨d0, d1, d2, q0, q1, q2, hd⟩ := (KidsC.below hbw hg2 hBg2 ms off2 hms).at i (by omega)
              have hst := sameL_drop (ks := ks) (ms := ms) i (by omega) (by omega)
              have ih := IH.out _ (List.getElem_mem (show i < ks.length by omega)) (ms[i]'(by omega)) (.agg #[c0, c1, c2]) (.agg #[d0, d1, d2]) wr.drew ⟨c0, c1, c2, rfl, NdC.below (Below.refl _ _).drew _ _ _ _ hc⟩ ⟨d0, d1, d2, rfl, NdC.below (Below.refl _ _).drew _ _ _ _ hd⟩
              obtain ⟨r, hr⟩ : ∃ x, sameN (ks[i]'(by omega)) (ms[i]'(by omega)) = x := ⟨_, rfl⟩
              rw [hr] at hst ih
              have hq2 := hq.out
              rw [hst] at hq2
              have IH2 := Lib.hid ih
              have Q2 := Lib.hid hq2
              have x1 : ({ heap := wr.heap, tape := wr.tape, drawn := wr.drawn + 1, os := wr.os, output := wr.output } : World).cell? ⟨w.heap.size, 2, none⟩ = some (.slice (some ⟨g, off, none⟩) len ck) := f1
              have x2 : ({ heap := wr.heap, tape := wr.tape, drawn := wr.drawn + 1, os := wr.os, output := wr.output } : World).cell? ⟨w.heap.size + 1, 2, none⟩ = some (.slice (some ⟨g2, off2, none⟩) len cm) := f2
              have y0 : ({ heap := wr.heap, tape := wr.tape, drawn := wr.drawn + 1, os := wr.os, output := wr.output } : World).cell? ⟨g, off + i * 3, none⟩ = some c0 := p0
              have y1 : ({ heap := wr.heap, tape := wr.tape, drawn := wr.drawn + 1, os := wr.os, output := wr.output } : World).cell? ⟨g, off + i * 3 + 1, none⟩ = some c1 := p1
              have y2 : ({ heap := wr.heap, tape := wr.tape, drawn := wr.drawn + 1, os := wr.os, output := wr.output } : World).cell? ⟨g, off + i * 3 + 2, none⟩ = some c2 := p2
              have z0 : ({ heap := wr.heap, tape := wr.tape, drawn := wr.drawn + 1, os := wr.os, output := wr.output } : World).cell? ⟨g2, off2 + i * 3, none⟩ = some d0 := q0
              have z1 : ({ heap := wr.heap, tape := wr.tape, drawn := wr.drawn + 1, os := wr.os, output := wr.output } : World).cell? ⟨g2, off2 + i * 3 + 1, none⟩ = some d1 := q1
              have z2 : ({ heap := wr.heap, tape := wr.tape, drawn := wr.drawn + 1, os := wr.os, output := wr.output } : World).cell? ⟨g2, off2 + i * 3 + 2, none⟩ = some d2 := q2
              clear ih hq2 hst hr hc hd hks hms hq
              go_wp2_with fail
              go_still_tail 10, (by kernel_rfl)
              change wpList _ _ _ _ _ wr.drew
              have hbel1 := hbel.drew
              obtain ⟨w2, hw2⟩ : ∃ x, wr.drew = x := ⟨_, rfl⟩
              rw [hw2] at IH2 hbel1 ⊢
              clear hw2 x1 x2 y0 y1 y2 z0 z1 z2 f1 f2 p0 p1 p2 q0 q1 q2
              go_wp2_with fail
              refine IH2.out.mono ?_
              rintro e w3 ⟨rfl, hb3⟩
              have hbel3 := hbel1.trans (hb3.mono hbel1.size)
              clear IH2 hb3 hbel1 hbel hbw
              cases r with
              | false =>
                have hN : ANS = false := Q2.out.symm.trans (Bool.false_and _)
                subst hN
                clear Q2 HN
                go_wp2
                go_ret
                exact ⟨rfl, hbx.trans (hbel3.mono (by omega))⟩
              | true =>
                have Q3 : Hid (sameL (ks.drop (i + 1)) (ms.drop (i + 1)) = ANS) := by have := Q2.out; rw [Bool.true_and] at this; exact this
                clear Q2
                go_wp2
                go_roundg gk'
                case measure => omega
                case rel => exact ⟨i + 1, by go_num, by omega, by omega, Q3, hbel3⟩
            · have hltz : ¬ (i : Int) < (len : Int) := by omega
              have hN : ANS = true := by
                rw [← hq.out, List.drop_eq_nil_of_le (by omega)]; unfold sameL; rfl
              subst hN
              clear hq HN IH HK3 HM3
              go_wp2
              go_ret
              exact ⟨rfl, hbw⟩
        · have e3b : ((len : Int) == (len2 : Int)) = false := by simp; omega
          have e3z : ¬ (len : Int) = (len2 : Int) := by omega
          rw [decide_eq_false e3, Bool.false_and]
          go_enter Tryz.func11, Tryz.ntmps11
          go_wp2
          go_ret
          exact ⟨rfl, hbx⟩
      · have hno := sameB_no hfA hfB e2
        unfold sameB at hno
        rw [decide_eq_false e2, Bool.false_and, Bool.false_and]
        obtain ⟨S, hS⟩ : ∃ x, strOfNums b = x := ⟨_, rfl⟩
        obtain ⟨S2, hS2⟩ : ∃ x, strOfNums b2 = x := ⟨_, rfl⟩
        rw [hS] at sA hno
        rw [hS2] at sB hno
        have hno2 : ¬ S.toList = S2.toList := by simpa using hno
        clear hS hS2
        go_enter Tryz.func11, Tryz.ntmps11
        go_wp2
        go_ret
        exact ⟨rfl, hbx⟩
    · have e1b : (t == t2) = false := by simpa using e1
      rw [decide_eq_false e1, Bool.false_and, Bool.false_and, Bool.false_and]
      go_enter Tryz.func11, Tryz.ntmps11
      go_wp2
      go_ret
      exact ⟨rfl, hbx⟩
end Go.Proofs.YtdcpggodlggjjaaGreatDoor.ndc
