/- How many terms one is: the program's Size and the document's. -/
import Derived.Test.YtlnclgpbobaedaaDoorTmP
namespace Go.Proofs.YtlnclgpbobaedaaDoor.tmc
open Go.RowKit Go.Proofs.YtlnclgpbobaedaaDoor.tlvc
set_option linter.unusedVariables false
theorem szTs_drop {ks : List Tm} {i : Nat} (h : i < ks.length) : szTs (ks.drop i) = szT ks[i] + szTs (ks.drop (i + 1)) := by
  rw [List.drop_eq_getElem_cons h]
  conv => lhs; unfold szTs
set_option maxRecDepth 100000 in
set_option maxHeartbeats 4000000 in
theorem size_any {B : Nat → Prop} : ∀ (N : Nat) (n : Tm), szT n ≤ N → N ≤ 1000000 → ∀ (v : Value) (w : World), TmV B w n v →
    Calls Tryd.prog 32 #[v] w fun e w' => e = .returned (.int .i64 (szT n : Nat)) ∧ Below w.heap.size w w'
  | 0, .mk _ _ _ ks, h, _, _, _, _ => by unfold szT at h; omega
  | N + 1, .mk t m b ks, h, hN, v, w, hv => by
    obtain ⟨c0, c1, c2, c3, rfl, hc⟩ := hv
    unfold TmC at hc
    obtain ⟨rfl, ht, rfl, hm, ⟨A, la, ca, rfl, hA1, hA2, hA3, _⟩, K, ck, rfl, hK1, hK2, hK3⟩ := hc
    unfold szT at h
    have ih : ∀ k ∈ ks, ∀ (v : Value) (w : World), TmV B w k v → Calls Tryd.prog 32 #[v] w fun e w' => e = .returned (.int .i64 (szT k : Nat)) ∧ Below w.heap.size w w' := fun k hk => size_any N k (by have := szTs_mem hk; omega) (by omega)
    obtain ⟨ANS, hANS⟩ : ∃ x, szT (.mk t m b ks) = x := ⟨_, rfl⟩
    rw [hANS]
    unfold szT at hANS
    have hbig : ANS ≤ 1000000 := by omega
    have IH := Lib.hid ih
    have HK3 := Lib.hid hK3
    have HA3 := Lib.hid hA3
    obtain ⟨len, hlen⟩ : ∃ x, ks.length = x := ⟨_, rfl⟩
    rw [hlen] at hK1 ⊢
    have hK9 : ck ≤ 9223372036854775807 := by unfold maxLen at hK2; omega
    clear ih hA3 hK3 size_any
    go_enter Tryd.func32, Tryd.ntmps32
    go_wp2_with fail
    go_loopg [3, 9] (len + 1) (fun gk s3 s9 wx => ∃ (i : Nat) (k : Nat), s3 = .int .i64 k ∧ s9 = .int .i64 i ∧ i ≤ len ∧ len - i < gk ∧ Hid (szTs (ks.drop i) + k = ANS) ∧ Below (w.heap.size + 1) (w.alloc (.cells #[.int .i64 t, .int .i64 m, .slice A la ca, .slice K len ck] 26)) wx)
    case atStart => exact ⟨0, 1, rfl, rfl, by omega, by omega, Lib.hid hANS, Below.refl _ _⟩
    case round =>
      obtain ⟨i, k, rfl, rfl, hi, hgk, hq, hbel⟩ := hrel
      have hbw : Below w.heap.size w wr := ((Below.refl _ _).alloc (Nat.le_refl _) _).trans (hbel.mono (Nat.le_succ _))
      by_cases hlt : i < len
      · have hltz : (i : Int) < (len : Int) := by omega
        obtain ⟨gk', rfl⟩ : ∃ g', gk = g' + 1 := ⟨gk - 1, by omega⟩
        obtain ⟨g, off, rfl, hg, hBg, hks⟩ := HK3.out (by omega)
        obtain ⟨d0, d1, d2, d3, e0, e1, e2, e3, hd⟩ := (KidsC.below hbw hg hBg ks off hks).at i (by omega)
        clear hks
        obtain ⟨to, tm, tA, tla, tca, tK, tlk, tck, q0, q1, q2, q3⟩ := hd.shape
        subst q0 q1 q2 q3
        have hmem : ks[i] ∈ ks := List.getElem_mem _
        have hnew : Below wr.heap.size wr (wr.alloc (.cells #[.int .i64 to, .int .i64 tm, .slice tA tla tca, .slice tK tlk tck] 26)) := (Below.refl _ _).alloc (Nat.le_refl _) _
        have ih := IH.out _ hmem (.agg #[.int .i64 to, .int .i64 tm, .slice tA tla tca, .slice tK tlk tck]) (wr.alloc (.cells #[.int .i64 to, .int .i64 tm, .slice tA tla tca, .slice tK tlk tck] 26)) ⟨_, _, _, _, rfl, TmC.below hnew _ _ _ _ _ hd⟩
        have hq2 := hq.out
        rw [szTs_drop (by omega)] at hq2
        obtain ⟨p, hp⟩ : ∃ x, szT ks[i] = x := ⟨_, rfl⟩
        rw [hp] at ih hq2
        have hkp : k + p ≤ 1000000 := by omega
        have IH2 := Lib.hid ih
        have Q2 : Hid (szTs (ks.drop (i + 1)) + (k + p) = ANS) := Lib.hid (by omega)
        have hw2 : IntKind.i64.wrap ((k : Int) + (p : Int)) = (k : Int) + (p : Int) := IntWalk.i64_in _ (by omega)
        clear ih hq2 hd hp hmem hq
        go_wp2_with fail
        refine IH2.out.mono ?_
        rintro e w2 ⟨rfl, hb2⟩
        have hbel2 : Below (w.heap.size + 1) (w.alloc (.cells #[.int .i64 t, .int .i64 m, .slice A la ca, .slice (some ⟨g, off, none⟩) len ck] 26)) w2 := (hbel.trans (hnew.mono (by have := hbel.size; simpa using this))).trans (hb2.mono (by have := hbel.size; simp at this ⊢; omega))
        clear IH2 hb2 hbel hbw hnew e0 e1 e2 e3
        go_wp2
        go_roundg gk'
        case measure => omega
        case rel => exact ⟨i + 1, k + p, by go_num, by go_num, by omega, by omega, Q2, hbel2⟩
      · have hltz : ¬ (i : Int) < (len : Int) := by omega
        have hend : k = ANS := by
          rw [← hq.out, List.drop_eq_nil_of_le (by omega)]
          unfold szTs
          omega
        clear hq IH HK3 HA3 hbel
        subst hend
        go_wp2
        go_ret
        exact ⟨rfl, hbw⟩
set_option maxRecDepth 100000 in
set_option maxHeartbeats 4000000 in
theorem refSize_any {B : Nat → Prop} : ∀ (N : Nat) (n : Tm), szT n ≤ N → N ≤ 1000000 → ∀ (v : Value) (w : World), TmV B w n v →
    Calls Tryd.prog 29 #[v] w fun e w' => e = .returned (.int .i64 (szT n : Nat)) ∧ Below w.heap.size w w'
  | 0, .mk _ _ _ ks, h, _, _, _, _ => by unfold szT at h; omega
  | N + 1, .mk t m b ks, h, hN, v, w, hv => by
    obtain ⟨c0, c1, c2, c3, rfl, hc⟩ := hv
    unfold TmC at hc
    obtain ⟨rfl, ht, rfl, hm, ⟨A, la, ca, rfl, hA1, hA2, hA3, _⟩, K, ck, rfl, hK1, hK2, hK3⟩ := hc
    unfold szT at h
    have ih : ∀ k ∈ ks, ∀ (v : Value) (w : World), TmV B w k v → Calls Tryd.prog 29 #[v] w fun e w' => e = .returned (.int .i64 (szT k : Nat)) ∧ Below w.heap.size w w' := fun k hk => refSize_any N k (by have := szTs_mem hk; omega) (by omega)
    obtain ⟨ANS, hANS⟩ : ∃ x, szT (.mk t m b ks) = x := ⟨_, rfl⟩
    rw [hANS]
    unfold szT at hANS
    have hbig : ANS ≤ 1000000 := by omega
    have IH := Lib.hid ih
    have HK3 := Lib.hid hK3
    have HA3 := Lib.hid hA3
    obtain ⟨len, hlen⟩ : ∃ x, ks.length = x := ⟨_, rfl⟩
    rw [hlen] at hK1 ⊢
    have hK9 : ck ≤ 9223372036854775807 := by unfold maxLen at hK2; omega
    clear ih hA3 hK3 refSize_any
    go_enter Tryd.func29, Tryd.ntmps29
    go_wp2_with fail
    go_loopg [3, 4] (len + 1) (fun gk s3 s9 wx => ∃ (i : Nat) (k : Nat), s3 = .int .i64 k ∧ s9 = .int .i64 i ∧ i ≤ len ∧ len - i < gk ∧ Hid (szTs (ks.drop i) + k = ANS) ∧ Below (w.heap.size + 1) (w.alloc (.cells #[.int .i64 t, .int .i64 m, .slice A la ca, .slice K len ck] 26)) wx)
    case atStart => exact ⟨0, 1, rfl, rfl, by omega, by omega, Lib.hid hANS, Below.refl _ _⟩
    case round =>
      obtain ⟨i, k, rfl, rfl, hi, hgk, hq, hbel⟩ := hrel
      have hf3 : wr.cell? ⟨w.heap.size, 3, none⟩ = some (.slice K len ck) := by
        rw [hbel.cell (p := ⟨w.heap.size, 3, none⟩) (by show w.heap.size < w.heap.size + 1; omega), World.cell?_alloc_mark]; rfl
      have hbw : Below w.heap.size w wr := ((Below.refl _ _).alloc (Nat.le_refl _) _).trans (hbel.mono (Nat.le_succ _))
      by_cases hlt : i < len
      · have hltz : (i : Int) < (len : Int) := by omega
        obtain ⟨gk', rfl⟩ : ∃ g', gk = g' + 1 := ⟨gk - 1, by omega⟩
        obtain ⟨g, off, rfl, hg, hBg, hks⟩ := HK3.out (by omega)
        obtain ⟨d0, d1, d2, d3, e0, e1, e2, e3, hd⟩ := (KidsC.below hbw hg hBg ks off hks).at i (by omega)
        clear hks
        have hmem : ks[i] ∈ ks := List.getElem_mem _
        have ih := IH.out _ hmem (.agg #[d0, d1, d2, d3]) wr ⟨_, _, _, _, rfl, hd⟩
        have hq2 := hq.out
        rw [szTs_drop (by omega)] at hq2
        obtain ⟨p, hp⟩ : ∃ x, szT ks[i] = x := ⟨_, rfl⟩
        rw [hp] at ih hq2
        have hkp : k + p ≤ 1000000 := by omega
        have IH2 := Lib.hid ih
        have Q2 : Hid (szTs (ks.drop (i + 1)) + (k + p) = ANS) := Lib.hid (by omega)
        have hw2 : IntKind.i64.wrap ((k : Int) + (p : Int)) = (k : Int) + (p : Int) := IntWalk.i64_in _ (by omega)
        clear ih hq2 hd hp hmem hq
        go_wp2_with fail
        refine IH2.out.mono ?_
        rintro e w2 ⟨rfl, hb2⟩
        have hbel2 : Below (w.heap.size + 1) (w.alloc (.cells #[.int .i64 t, .int .i64 m, .slice A la ca, .slice (some ⟨g, off, none⟩) len ck] 26)) w2 := hbel.trans (hb2.mono (by have := hbel.size; simpa using this))
        clear IH2 hb2 hbel hbw e0 e1 e2 e3
        go_wp2
        go_roundg gk'
        case measure => omega
        case rel => exact ⟨i + 1, k + p, by go_num, by go_num, by omega, by omega, Q2, hbel2⟩
      · have hltz : ¬ (i : Int) < (len : Int) := by omega
        have hend : k = ANS := by
          rw [← hq.out, List.drop_eq_nil_of_le (by omega)]
          unfold szTs
          omega
        clear hq IH HK3 HA3 hbel
        subst hend
        go_wp2
        go_ret
        exact ⟨rfl, hbw⟩
end Go.Proofs.YtlnclgpbobaedaaDoor.tmc
