/- rightAlone and the document's kids. -/
import Derived.Test.YtlnclgpbobaedaaDoorTmW
namespace Go.Proofs.YtlnclgpbobaedaaDoor.tmc
open Go.RowKit Go.Proofs.YtlnclgpbobaedaaDoor.tlvc
set_option linter.unusedVariables false
set_option linter.unusedSimpArgs false
theorem below_drewN {B : Nat} {w w' : World} (h : Below B w w') (q : Nat) : Below B w (w'.drewN q) := ⟨h.os, h.tape, h.output, h.size, h.block⟩
theorem ret_b {a b : Bool} (h : a = b) : Ending.returned (.bool a) = .returned (.bool b) := by rw [h]
set_option maxRecDepth 100000 in
set_option maxHeartbeats 8000000 in
theorem rightAlone_any (C : Nat → Prop) (o m : Int) (d : List Int) (ks : List Tm) (v : Value) (w : World) (hv : TmV C w (.mk o m d ks) v) :
    Calls Tryd.prog 50 #[v] w fun e w' => e = .returned (.bool (aloneB o m d.length ks.length)) ∧ Below w.heap.size w w' := by
  obtain ⟨c0, c1, c2, c3, rfl, hc⟩ := hv
  unfold TmC at hc
  obtain ⟨rfl, ho, rfl, hm, ⟨A, la, ca, rfl, hA1, hA2, hA3, _⟩, K, ck, rfl, hK1, hK2, hK3⟩ := hc
  have hl := hA3.1
  rw [hl]
  obtain ⟨lk, hlk⟩ : ∃ x, ks.length = x := ⟨_, rfl⟩
  rw [hlk] at hK1 ⊢
  obtain ⟨W0, hW0⟩ : ∃ x, w.alloc (.cells #[.int .i64 o, .int .i64 m, .slice A la ca, .slice K lk ck] 26) = x := ⟨_, rfl⟩
  have hbw : Below w.heap.size w W0 := by rw [← hW0]; exact below_new _ _
  have q0 : W0.heap[w.heap.size]? = some (.cells #[.int .i64 o, .int .i64 m, .slice A la ca, .slice K lk ck] 26) := by rw [← hW0]; exact heap_new_ _ _
  have hbz : w.heap.size < W0.heap.size := by rw [← hW0]; simp
  obtain ⟨x0, x1, x2, x3⟩ := box4 (Below.refl W0.heap.size W0) q0 hbz
  clear hA3 hK3 hl hlk q0
  unfold maxLen at hK2 hA2
  have fin : ∀ (b : Bool) (P : Prop) [Decidable P], (b = true ↔ P) → b = decide P := fun b P _ h => by rw [Bool.eq_iff_iff, h, decide_eq_true_iff]
  have no : ∀ {b : Bool}, b = false → b = false := fun h => h
  by_cases h1 : o = 1
  · subst h1
    obtain ⟨RES, hRES⟩ : ∃ x, aloneB 1 m la lk = x := ⟨_, rfl⟩
    have hR : decide (lk = 0 ∧ la = 0 ∧ 0 ≤ m ∧ m ≤ 1099511627776) = RES := hRES
    rw [hRES]
    have HR := Lib.hid hR
    clear hR hRES
    go_enter Tryd.func50, Tryd.ntmps50
    go_wp2_with fail
    go_quiet (fail)
    go_wp2
    all_goals
      go_ret
      refine ⟨ret_b ?_, below_drewN hbw _⟩
      rw [← HR.out]
      refine fin _ _ ?_
      simp
      try omega
  by_cases h2 : o = 2
  · subst h2
    obtain ⟨RES, hRES⟩ : ∃ x, aloneB 2 m la lk = x := ⟨_, rfl⟩
    have hR : decide (lk = 1 ∧ la = 0 ∧ m = 0) = RES := hRES
    rw [hRES]
    have HR := Lib.hid hR
    clear hR hRES
    go_enter Tryd.func50, Tryd.ntmps50
    go_wp2_with fail
    go_quiet (fail)
    go_wp2
    all_goals
      go_ret
      refine ⟨ret_b ?_, below_drewN hbw _⟩
      rw [← HR.out]
      refine fin _ _ ?_
      simp
      try omega
  by_cases h3 : o = 3
  · subst h3
    obtain ⟨RES, hRES⟩ : ∃ x, aloneB 3 m la lk = x := ⟨_, rfl⟩
    have hR : decide (lk = 1 ∧ la ≤ 8192 ∧ m = 0) = RES := hRES
    rw [hRES]
    have HR := Lib.hid hR
    clear hR hRES
    go_enter Tryd.func50, Tryd.ntmps50
    go_wp2_with fail
    go_quiet (fail)
    go_wp2
    all_goals
      go_ret
      refine ⟨ret_b ?_, below_drewN hbw _⟩
      rw [← HR.out]
      refine fin _ _ ?_
      simp
      try omega
  by_cases h4 : o = 4
  · subst h4
    obtain ⟨RES, hRES⟩ : ∃ x, aloneB 4 m la lk = x := ⟨_, rfl⟩
    have hR : decide (lk = 1 ∧ la ≤ 8192 ∧ m = 0) = RES := hRES
    rw [hRES]
    have HR := Lib.hid hR
    clear hR hRES
    go_enter Tryd.func50, Tryd.ntmps50
    go_wp2_with fail
    go_quiet (fail)
    go_wp2
    all_goals
      go_ret
      refine ⟨ret_b ?_, below_drewN hbw _⟩
      rw [← HR.out]
      refine fin _ _ ?_
      simp
      try omega
  by_cases h6 : o = 6
  · subst h6
    obtain ⟨RES, hRES⟩ : ∃ x, aloneB 6 m la lk = x := ⟨_, rfl⟩
    have hR : decide (lk = 1 ∧ la ≤ 8192 ∧ m = 0) = RES := hRES
    rw [hRES]
    have HR := Lib.hid hR
    clear hR hRES
    go_enter Tryd.func50, Tryd.ntmps50
    go_wp2_with fail
    go_quiet (fail)
    go_wp2
    all_goals
      go_ret
      refine ⟨ret_b ?_, below_drewN hbw _⟩
      rw [← HR.out]
      refine fin _ _ ?_
      simp
      try omega
  by_cases h5 : o = 5
  · subst h5
    obtain ⟨RES, hRES⟩ : ∃ x, aloneB 5 m la lk = x := ⟨_, rfl⟩
    have hR : decide (lk = 0 ∧ la ≤ 8192 ∧ m = 0) = RES := hRES
    rw [hRES]
    have HR := Lib.hid hR
    clear hR hRES
    go_enter Tryd.func50, Tryd.ntmps50
    go_wp2_with fail
    go_quiet (fail)
    go_wp2
    all_goals
      go_ret
      refine ⟨ret_b ?_, below_drewN hbw _⟩
      rw [← HR.out]
      refine fin _ _ ?_
      simp
      try omega
  by_cases h7 : o = 7
  · subst h7
    obtain ⟨RES, hRES⟩ : ∃ x, aloneB 7 m la lk = x := ⟨_, rfl⟩
    have hR : decide (lk ≤ 4 ∧ la = 0 ∧ m = 0) = RES := hRES
    rw [hRES]
    have HR := Lib.hid hR
    clear hR hRES
    go_enter Tryd.func50, Tryd.ntmps50
    go_wp2_with fail
    go_quiet (fail)
    go_wp2
    all_goals
      go_ret
      refine ⟨ret_b ?_, below_drewN hbw _⟩
      rw [← HR.out]
      refine fin _ _ ?_
      simp
      try omega
  have hE : aloneB o m la lk = false := by
    unfold aloneB
    rw [if_neg h1, if_neg h2, if_neg (by omega), if_neg h5, if_neg h7]
  rw [hE]
  have b1 : (o == 1) = false := by simpa using h1
  have b2 : (o == 2) = false := by simpa using h2
  have b3 : (o == 3) = false := by simpa using h3
  have b4 : (o == 4) = false := by simpa using h4
  have b6 : (o == 6) = false := by simpa using h6
  have b5 : (o == 5) = false := by simpa using h5
  have b7 : (o == 7) = false := by simpa using h7
  clear hE
  go_enter Tryd.func50, Tryd.ntmps50
  go_wp2_with fail
  go_quiet (fail)
  go_wp2
  go_ret
  exact ⟨rfl, below_drewN hbw _⟩
/-- May a term have as many kids? -/
def kidsB (o : Int) (k : Nat) : Bool := if o = 1 ∨ o = 5 then decide (k = 0) else if o = 2 ∨ o = 3 ∨ o = 4 ∨ o = 6 then decide (k = 1) else if o = 7 then decide (k ≤ 4) else false
set_option maxRecDepth 100000 in
set_option maxHeartbeats 8000000 in
theorem refKids_any (C : Nat → Prop) (o m : Int) (d : List Int) (ks : List Tm) (v : Value) (w : World) (hv : TmV C w (.mk o m d ks) v) :
    Calls Tryd.prog 55 #[v] w fun e w' => e = .returned (.bool (kidsB o ks.length)) ∧ Below w.heap.size w w' := by
  obtain ⟨c0, c1, c2, c3, rfl, hc⟩ := hv
  unfold TmC at hc
  obtain ⟨rfl, ho, rfl, hm, ⟨A, la, ca, rfl, hA1, hA2, hA3, _⟩, K, ck, rfl, hK1, hK2, hK3⟩ := hc
  obtain ⟨lk, hlk⟩ : ∃ x, ks.length = x := ⟨_, rfl⟩
  rw [hlk] at hK1 ⊢
  have hbw := below_new w (.cells #[.int .i64 o, .int .i64 m, .slice A la ca, .slice K lk ck] 26)
  clear hA3 hK3 hlk
  unfold maxLen at hK2 hA2
  have fin : ∀ (b : Bool) (P : Prop) [Decidable P], (b = true ↔ P) → b = decide P := fun b P _ h => by rw [Bool.eq_iff_iff, h, decide_eq_true_iff]
  by_cases h1 : o = 1
  · subst h1
    obtain ⟨RES, hRES⟩ : ∃ x, kidsB 1 lk = x := ⟨_, rfl⟩
    have hR : decide (lk = 0) = RES := hRES
    rw [hRES]
    have HR := Lib.hid hR
    clear hR hRES
    go_enter Tryd.func55, Tryd.ntmps55
    go_wp2
    all_goals
      go_ret
      refine ⟨ret_b ?_, hbw⟩
      rw [← HR.out]
      refine fin _ _ ?_
      simp
      try omega
  by_cases h5 : o = 5
  · subst h5
    obtain ⟨RES, hRES⟩ : ∃ x, kidsB 5 lk = x := ⟨_, rfl⟩
    have hR : decide (lk = 0) = RES := hRES
    rw [hRES]
    have HR := Lib.hid hR
    clear hR hRES
    go_enter Tryd.func55, Tryd.ntmps55
    go_wp2
    all_goals
      go_ret
      refine ⟨ret_b ?_, hbw⟩
      rw [← HR.out]
      refine fin _ _ ?_
      simp
      try omega
  by_cases h2 : o = 2
  · subst h2
    obtain ⟨RES, hRES⟩ : ∃ x, kidsB 2 lk = x := ⟨_, rfl⟩
    have hR : decide (lk = 1) = RES := hRES
    rw [hRES]
    have HR := Lib.hid hR
    clear hR hRES
    go_enter Tryd.func55, Tryd.ntmps55
    go_wp2
    all_goals
      go_ret
      refine ⟨ret_b ?_, hbw⟩
      rw [← HR.out]
      refine fin _ _ ?_
      simp
      try omega
  by_cases h3 : o = 3
  · subst h3
    obtain ⟨RES, hRES⟩ : ∃ x, kidsB 3 lk = x := ⟨_, rfl⟩
    have hR : decide (lk = 1) = RES := hRES
    rw [hRES]
    have HR := Lib.hid hR
    clear hR hRES
    go_enter Tryd.func55, Tryd.ntmps55
    go_wp2
    all_goals
      go_ret
      refine ⟨ret_b ?_, hbw⟩
      rw [← HR.out]
      refine fin _ _ ?_
      simp
      try omega
  by_cases h4 : o = 4
  · subst h4
    obtain ⟨RES, hRES⟩ : ∃ x, kidsB 4 lk = x := ⟨_, rfl⟩
    have hR : decide (lk = 1) = RES := hRES
    rw [hRES]
    have HR := Lib.hid hR
    clear hR hRES
    go_enter Tryd.func55, Tryd.ntmps55
    go_wp2
    all_goals
      go_ret
      refine ⟨ret_b ?_, hbw⟩
      rw [← HR.out]
      refine fin _ _ ?_
      simp
      try omega
  by_cases h6 : o = 6
  · subst h6
    obtain ⟨RES, hRES⟩ : ∃ x, kidsB 6 lk = x := ⟨_, rfl⟩
    have hR : decide (lk = 1) = RES := hRES
    rw [hRES]
    have HR := Lib.hid hR
    clear hR hRES
    go_enter Tryd.func55, Tryd.ntmps55
    go_wp2
    all_goals
      go_ret
      refine ⟨ret_b ?_, hbw⟩
      rw [← HR.out]
      refine fin _ _ ?_
      simp
      try omega
  by_cases h7 : o = 7
  · subst h7
    obtain ⟨RES, hRES⟩ : ∃ x, kidsB 7 lk = x := ⟨_, rfl⟩
    have hR : decide (lk ≤ 4) = RES := hRES
    rw [hRES]
    have HR := Lib.hid hR
    clear hR hRES
    go_enter Tryd.func55, Tryd.ntmps55
    go_wp2
    all_goals
      go_ret
      refine ⟨ret_b ?_, hbw⟩
      rw [← HR.out]
      refine fin _ _ ?_
      simp
      try omega
  have hE : kidsB o lk = false := by
    unfold kidsB
    rw [if_neg (by omega), if_neg (by omega), if_neg h7]
  rw [hE]
  have b1 : (o == 1) = false := by simpa using h1
  have b5 : (o == 5) = false := by simpa using h5
  have b2 : (o == 2) = false := by simpa using h2
  have b3 : (o == 3) = false := by simpa using h3
  have b4 : (o == 4) = false := by simpa using h4
  have b6 : (o == 6) = false := by simpa using h6
  have b7 : (o == 7) = false := by simpa using h7
  clear hE
  go_enter Tryd.func55, Tryd.ntmps55
  go_wp2
  go_ret
  exact ⟨rfl, hbw⟩
end Go.Proofs.YtlnclgpbobaedaaDoor.tmc
