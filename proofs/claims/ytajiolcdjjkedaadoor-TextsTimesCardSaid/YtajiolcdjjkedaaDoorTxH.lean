/- The document's own days, months and digits. -/
import Derived.Test.YtajiolcdjjkedaaDoorTxG
namespace Go.Proofs.YtajiolcdjjkedaaDoor.txc
open Go.RowKit Go.Proofs.YtajiolcdjjkedaaDoor.txm Go.Proofs.YtajiolcdjjkedaaDoor.tlvc
set_option linter.unusedVariables false

set_option maxRecDepth 100000 in
theorem leaps_any (y : Int) (w : World) (h : 0 ≤ y) (h2 : y ≤ 1000000) :
    Calls Tryd.prog 51 #[.int .i64 y] w fun e w' => e = .returned (.int .i64 (lpG (y + 1))) ∧ w = w' := by
  have e : lpG (y + 1) = y / 4 - y / 100 + y / 400 := by rw [lpG_pos (by omega)]; unfold lp4; rw [Int.add_sub_cancel]
  rw [e]
  clear e
  go_enter Tryd.func51, Tryd.ntmps51
  go_wp2
  go_ret
  exact ⟨rfl, rfl⟩

set_option maxRecDepth 100000 in
/-- Days from the beginning of 1970 on. -/
theorem days_any (y : Int) (w : World) (h : 1 ≤ y) (h2 : y ≤ 1000000) :
    Calls Tryd.prog 38 #[.int .i64 y] w fun e w' => e = .returned (.int .i64 (dto y - 7305)) ∧ w = w' := by
  obtain ⟨L, hL⟩ : ∃ L, lpG (y - 1 + 1) = L := ⟨_, rfl⟩
  have hb := lpG_bd (y := y - 1 + 1) (by omega) (by omega)
  rw [hL] at hb
  have hd : dto y - 7305 = 365 * (y - 1970) + L - 477 := by unfold dto; rw [show y = y - 1 + 1 by omega, hL]; omega
  rw [hd]
  have hL' := Lib.hid hL
  have e69 : lpG (1969 + 1) = 477 := by decide
  have H69 := Lib.hid e69
  clear hL hd e69
  obtain ⟨hb1, hb2⟩ := hb
  go_enter Tryd.func38, Tryd.ntmps38
  go_wp2_with fail
  refine (leaps_any _ _ (by omega) (by omega)).mono ?_
  rw [hL'.out]
  rintro e w' ⟨rfl, rfl⟩
  go_wp2_with fail
  refine (leaps_any _ _ (by omega) (by omega)).mono ?_
  rw [H69.out]
  rintro e w' ⟨rfl, rfl⟩
  go_wp2
  go_ret
  exact ⟨ret_i64 rfl, rfl⟩

def leapB (y : Int) : Bool := decide (lp y = 1)
set_option maxRecDepth 100000 in
theorem leap_any' (y : Int) (w : World) (h : 1 ≤ y) (h2 : y ≤ 1000000) :
    Calls Tryd.prog 52 #[.int .i64 y] w fun e w' => e = .returned (.bool (leapB y)) ∧ w = w' := by
  by_cases h4 : y % 4 = 0
  · by_cases h100 : y % 100 = 0
    · by_cases h400 : y % 400 = 0
      · have e : leapB y = true := decide_eq_true (lp_d h h4 h100 h400)
        rw [e]
        have t4 : (y % 4 == 0) = true := by simp [h4]
        have t100 : (y % 100 != 0) = false := by simp [h100]
        have t400 : (y % 400 == 0) = true := by simp [h400]
        clear h4 h100 h400 e
        go_enter Tryd.func52, Tryd.ntmps52
        go_wp2
        go_ret
        exact ⟨rfl, rfl⟩
      · have e : leapB y = false := decide_eq_false (by rw [lp_c h h4 h100 h400]; decide)
        rw [e]
        have t4 : (y % 4 == 0) = true := by simp [h4]
        have t100 : (y % 100 != 0) = false := by simp [h100]
        have t400 : (y % 400 == 0) = false := by simp [h400]
        clear h4 h100 h400 e
        go_enter Tryd.func52, Tryd.ntmps52
        go_wp2
        go_ret
        exact ⟨rfl, rfl⟩
    · have e : leapB y = true := decide_eq_true (lp_b h h4 h100)
      rw [e]
      have t4 : (y % 4 == 0) = true := by simp [h4]
      have t100 : (y % 100 != 0) = true := by simp [h100]
      clear h4 h100 e
      go_enter Tryd.func52, Tryd.ntmps52
      go_wp2
      go_ret
      exact ⟨rfl, rfl⟩
  · have e : leapB y = false := decide_eq_false (by rw [lp_a h h4]; decide)
    rw [e]
    have t4 : (y % 4 == 0) = false := by simp [h4]
    clear h4 e
    go_enter Tryd.func52, Tryd.ntmps52
    go_wp2
    go_ret
    exact ⟨rfl, rfl⟩

set_option maxRecDepth 100000 in
theorem two_any (n : Int) (w : World) (h : 0 ≤ n) (h2 : n ≤ 99) :
    Calls Tryd.prog 40 #[.int .i64 n] w fun e w' => e = .returned (.slice (some ⟨w.heap.size, 0, none⟩) 2 2) ∧ w' = w.alloc (.cells #[.int .u8 (48 + n / 10), .int .u8 (48 + n % 10)] 5) := by
  go_enter Tryd.func40, Tryd.ntmps40
  go_wp2
  go_ret
  exact ⟨rfl, rfl⟩
end Go.Proofs.YtajiolcdjjkedaaDoor.txc
