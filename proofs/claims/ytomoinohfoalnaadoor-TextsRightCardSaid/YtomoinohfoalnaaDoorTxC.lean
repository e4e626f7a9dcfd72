/- The program's days and years: leapDaysTo, daysTo, monthsOf. -/
import Derived.Test.YtomoinohfoalnaaDoorTxB
import Derived.Test.YtomoinohfoalnaaDoorTxK
import Derived.StillTailTactics
namespace Go.Proofs.YtomoinohfoalnaaDoor.txc
open Go.RowKit Go.Proofs.YtomoinohfoalnaaDoor.txm Go.Proofs.YtomoinohfoalnaaDoor.tlvc
set_option linter.unusedVariables false

set_option maxRecDepth 100000 in
theorem leap_any (y : Int) (w : World) (h : 0 ≤ y) (h2 : y ≤ 1000000) :
    Calls Tryd.prog 76 #[.int .i64 y] w fun e w' => e = .returned (.int .i64 (lpG y)) ∧ w = w' := by
  by_cases h0 : y = 0
  · subst h0
    go_enter Tryd.func76, Tryd.ntmps76
    go_wp2
    go_ret
    exact ⟨rfl, rfl⟩
  · have h1 : 1 ≤ y := by omega
    rw [lpG_pos h1]
    go_enter Tryd.func76, Tryd.ntmps76
    go_wp2
    go_ret
    exact ⟨ret_i64 rfl, rfl⟩

set_option maxRecDepth 100000 in
theorem daysTo_any (y : Int) (w : World) (h : 0 ≤ y) (h2 : y ≤ 1000000) :
    Calls Tryd.prog 61 #[.int .i64 y] w fun e w' => e = .returned (.int .i64 (dto y)) ∧ w = w' := by
  obtain ⟨L, hL⟩ : ∃ L, lpG y = L := ⟨_, rfl⟩
  have hb := lpG_bd h h2
  rw [hL] at hb
  have hd : dto y = 365 * (y - 1950) + L - 472 := by unfold dto; rw [hL]
  rw [hd]
  have hL' := Lib.hid hL
  have e50 : lpG 1950 = 472 := by decide
  have H50 := Lib.hid e50
  clear hL hd e50
  obtain ⟨hb1, hb2⟩ := hb
  go_enter Tryd.func61, Tryd.ntmps61
  go_wp2_with fail
  refine (leap_any _ _ h h2).mono ?_
  rw [hL'.out]
  rintro e w' ⟨rfl, rfl⟩
  go_wp2_with fail
  refine (leap_any _ _ (by omega) (by omega)).mono ?_
  rw [H50.out]
  rintro e w' ⟨rfl, rfl⟩
  go_wp2
  go_ret
  exact ⟨ret_i64 rfl, rfl⟩
theorem leap_still (y L : Int) (w : World) (h : 0 ≤ y) (h2 : y ≤ 1000000) (hL : Hid (lpG y = L)) :
    Calls Tryd.prog 76 #[.int .i64 y] w fun e w' => e = .returned (.int .i64 L) ∧ w' = w :=
  (leap_any y w h h2).mono fun e w' ⟨h1, h2⟩ => ⟨by rw [← hL.out]; exact h1, h2.symm⟩
end Go.Proofs.YtomoinohfoalnaaDoor.txc
