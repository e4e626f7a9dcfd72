/- The document's Parts and Same. -/
import Derived.Test.YthcancakkkjpaaaGreatDoorKa
import Derived.Test.YthcancakkkjpaaaGreatDoorProg
import Derived.Test.YthcancakkkjpaaaGreatDoorIa
import Derived.RegionTactic
import Derived.Deep.QuietTactic
import Derived.Deep.LoopGhost
import Derived.StillTailTactics
import Derived.Deep.Heap
namespace Go.Proofs.YthcancakkkjpaaaGreatDoor.ndc
open Go.RowKit Go.Proofs.YthcancakkkjpaaaGreatDoor.tlvc Go.Proofs.YthcancakkkjpaaaGreatDoor.intc
set_option linter.unusedVariables false
set_option maxRecDepth 100000 in
set_option maxHeartbeats 4000000 in
theorem parts_of {B : Nat → Prop} : ∀ (N : Nat) (n : Nd), szN n ≤ N → ∀ (v : Value) (most : Int) (w : World), NdV B w n v → 0 ≤ most → most ≤ 20000 →
    Calls Tryz.prog 5 #[v, .int .i64 most] w fun e w' => e = .returned (.int .i64 (partsF n most)) ∧ Below w.heap.size w w'
  | 0, .mk t b ks, h, _, _, _, _, _, _ => by unfold szN at h; omega
  | N + 1, .mk t b ks, h, v, most, w, hv, h0, h1 => by
    obtain ⟨c0, c1, c2, rfl, hc⟩ := hv
    unfold NdC at hc
    obtain ⟨rfl, ht, ⟨A, la, ca, rfl, hA1, hA2, hA3, _⟩, K, ck, rfl, hK1, hK2, hK3⟩ := hc
    unfold szN at h
    have ih : ∀ k ∈ ks, ∀ (v : Value) (most : Int) (w : World), NdV B w k v → 0 ≤ most → most ≤ 20000 → Calls Tryz.prog 5 #[v, .int .i64 most] w fun e w' => e = .returned (.int .i64 (partsF k most)) ∧ Below w.heap.size w w' := fun k hk => parts_of N k (by have := szL_mem hk; omega)
    have ibd : ∀ k ∈ ks, ∀ m, 0 ≤ m → 1 ≤ partsF k m ∧ partsF k m ≤ m + 1 := fun k hk => partsF_bd N k (by have := szL_mem hk; omega)
    obtain ⟨ANS, hANS⟩ : ∃ x, partsF (.mk t b ks) most = x := ⟨_, rfl⟩
    rw [hANS]
    unfold partsF at hANS
    have IH := Lib.hid ih
    have IBD := Lib.hid ibd
    have HK3 := Lib.hid hK3
    have HA3 := Lib.hid hA3
    obtain ⟨len, hlen⟩ : ∃ x, ks.length = x := ⟨_, rfl⟩
    rw [hlen] at hK1 ⊢
    have hK9 : ck ≤ 9223372036854775807 := by unfold maxLen at hK2; omega
    clear ih ibd hA3 hK3 parts_of
    go_enter Tryz.func5, Tryz.ntmps5
    go_wp2_with fail
    go_loopg [5, 6] (len + 1) (fun gk s5 s6 wx => ∃ (i : Nat) (k : Int), s5 = .int .i64 k ∧ s6 = .int .i64 i ∧ i ≤ len ∧ len - i < gk ∧ 1 ≤ k ∧ k ≤ most + 1 ∧ Hid (partsL (ks.drop i) most k = ANS) ∧ Below (w.heap.size + 1) (w.alloc (.cells #[.int .u8 t, .slice A la ca, .slice K len ck] 25)) wx)
    case atStart => exact ⟨0, 1, rfl, rfl, by omega, by omega, by omega, by omega, Lib.hid hANS, Below.refl _ _⟩
    case round =>
      obtain ⟨i, k, rfl, rfl, hi, hgk, hk1, hk2, hq, hbel⟩ := hrel
      have hf2 : wr.cell? ⟨w.heap.size, 2, none⟩ = some (.slice K len ck) := by
        rw [hbel.cell (p := ⟨w.heap.size, 2, none⟩) (by show w.heap.size < w.heap.size + 1; omega), World.cell?_alloc_mark]; rfl
      have hbw : Below w.heap.size w wr := ((Below.refl _ _).alloc (Nat.le_refl _) _).trans (hbel.mono (Nat.le_succ _))
      by_cases hlt : i < len
      · have hltz : (i : Int) < (len : Int) := by omega
        by_cases hkm : k ≤ most
        · obtain ⟨gk', rfl⟩ : ∃ g', gk = g' + 1 := ⟨gk - 1, by omega⟩
          obtain ⟨g, off, rfl, hg, hBg, hks⟩ := HK3.out (by omega)
          obtain ⟨d0, d1, d2, e0, e1, e2, hd⟩ := (KidsC.below hbw hg hBg ks off hks).at i (by omega)
          clear hks
          have hmem : ks[i] ∈ ks := List.getElem_mem _
          have hpb := IBD.out _ hmem (most - k) (by omega)
          have ih := IH.out _ hmem (.agg #[d0, d1, d2]) (most - k) wr ⟨d0, d1, d2, rfl, hd⟩ (by omega) (by omega)
          have hstep : partsL (ks.drop i) most k = partsL (ks.drop (i + 1)) most (k + partsF ks[i] (most - k)) := by
            rw [List.drop_eq_getElem_cons (by omega)]
            conv => lhs; unfold partsL
            rw [if_pos hkm]
          have hq2 := hq.out
          rw [hstep] at hq2
          obtain ⟨p, hp⟩ : ∃ x, partsF ks[i] (most - k) = x := ⟨_, rfl⟩
          rw [hp] at hpb ih hq2
          have IH2 := Lib.hid ih
          have Q2 := Lib.hid hq2
          have hw1 : IntKind.i64.wrap (most - k) = most - k := IntWalk.i64_in _ (by omega)
          have hw2 : IntKind.i64.wrap (k + p) = k + p := IntWalk.i64_in _ (by omega)
          have hpk : k + p ≤ most + 1 := by omega
          clear ih hq2 hstep hd hp hmem hq
          go_wp2_with fail
          refine IH2.out.mono ?_
          rintro e w2 ⟨rfl, hb2⟩
          have hbel2 : Below (w.heap.size + 1) (w.alloc (.cells #[.int .u8 t, .slice A la ca, .slice (some ⟨g, off, none⟩) len ck] 25)) w2 := hbel.trans (hb2.mono (by have := hbel.size; simpa using this))
          clear IH2 hb2 hbel hbw e0 e1 e2
          go_wp2
          go_roundg gk'
          case measure => omega
          case rel => exact ⟨i + 1, k + p, rfl, by go_num, by omega, by omega, by omega, hpk, Q2, hbel2⟩
        · have hkz : ¬ k ≤ most := hkm
          have hend : k = ANS := by
            rw [← hq.out, List.drop_eq_getElem_cons (by omega)]
            conv => rhs; unfold partsL
            rw [if_neg hkm]
          clear hq IH IBD HK3 HA3 hbel
          subst hend
          go_wp2
          go_ret
          exact ⟨rfl, hbw⟩
      · have hltz : ¬ (i : Int) < (len : Int) := by omega
        have hend : k = ANS := by
          rw [← hq.out, List.drop_eq_nil_of_le (by omega)]
          conv => rhs; unfold partsL
        clear hq IH IBD HK3 HA3 hbel
        subst hend
        go_wp2
        go_ret
        exact ⟨rfl, hbw⟩
end Go.Proofs.YthcancakkkjpaaaGreatDoor.ndc
