/- Which runes may stand in a text of a tag. -/
import Derived.Test.YtomoinohfoalnaaDoorTxQ
namespace Go.Proofs.YtomoinohfoalnaaDoor.txm
def PrintR (r : Int) : Prop := (65 ≤ r ∧ r ≤ 90) ∨ (97 ≤ r ∧ r ≤ 122) ∨ (48 ≤ r ∧ r ≤ 57) ∨ r = 32 ∨ r = 39 ∨ r = 40 ∨ r = 41 ∨ r = 43 ∨ r = 44 ∨ r = 45 ∨ r = 46 ∨ r = 47 ∨ r = 58 ∨ r = 61 ∨ r = 63
def AsciiR (r : Int) : Prop := r < 128
def GenR (r : Int) : Prop := 32 ≤ r ∧ r ≤ 126
instance (r : Int) : Decidable (PrintR r) := by unfold PrintR; infer_instance
instance (r : Int) : Decidable (AsciiR r) := by unfold AsciiR; infer_instance
instance (r : Int) : Decidable (GenR r) := by unfold GenR; infer_instance
/-- May a rune stand in a text of this tag? -/
def okR (t : Int) (r : Int) : Bool := if t = 19 then decide (PrintR r) else if t = 22 then decide (AsciiR r) else decide (GenR r)
end Go.Proofs.YtomoinohfoalnaaDoor.txm
namespace Go.Proofs.YtomoinohfoalnaaDoor.txc
open Go.RowKit Go.Proofs.YtomoinohfoalnaaDoor.txm Go.Proofs.YtomoinohfoalnaaDoor.tlvc
set_option linter.unusedVariables false
theorem ret_bool {a b : Bool} (h : a = b) : Ending.returned (.bool a) = .returned (.bool b) := by rw [h]

set_option maxRecDepth 100000 in
theorem lit22_any (r : Int) (w : World) :
    Calls Tryd.prog 27 #[.int .i32 r] w fun e w' => e = .returned (.bool (decide (AsciiR r))) ∧ w = w' := by
  by_cases h : r < 128
  · rw [show decide (AsciiR r) = true from decide_eq_true h]
    go_enter Tryd.func27, Tryd.ntmps27
    go_wp2
    go_ret
    exact ⟨ret_bool (by first | rfl | (simp; done) | (simp; omega)), rfl⟩
  · rw [show decide (AsciiR r) = false from decide_eq_false h]
    go_enter Tryd.func27, Tryd.ntmps27
    go_wp2
    go_ret
    exact ⟨ret_bool (by first | rfl | (simp; done) | (simp; omega)), rfl⟩
set_option maxRecDepth 100000 in
theorem lit27_any (r : Int) (w : World) :
    Calls Tryd.prog 28 #[.int .i32 r] w fun e w' => e = .returned (.bool (decide (GenR r))) ∧ w = w' := by
  by_cases h : 32 ≤ r
  · by_cases h2 : r ≤ 126
    · rw [show decide (GenR r) = true from decide_eq_true ⟨h, h2⟩]
      go_enter Tryd.func28, Tryd.ntmps28
      go_wp2
      go_ret
      exact ⟨ret_bool (by first | rfl | (simp; done) | (simp; omega)), rfl⟩
    · rw [show decide (GenR r) = false from decide_eq_false (fun hh => h2 hh.2)]
      go_enter Tryd.func28, Tryd.ntmps28
      go_wp2
      go_ret
      exact ⟨ret_bool (by first | rfl | (simp; done) | (simp; omega)), rfl⟩
  · rw [show decide (GenR r) = false from decide_eq_false (fun hh => h hh.1)]
    go_enter Tryd.func28, Tryd.ntmps28
    go_wp2
    go_ret
    exact ⟨ret_bool (by first | rfl | (simp; done) | (simp; omega)), rfl⟩
set_option maxRecDepth 100000 in
set_option maxHeartbeats 4000000 in
theorem print_any (r : Int) (w : World) :
    Calls Tryd.prog 26 #[.int .i32 r] w fun e w' => e = .returned (.bool (decide (PrintR r))) ∧ w = w' := by
  obtain ⟨k, hk⟩ : ∃ k, decide (PrintR r) = k := ⟨_, rfl⟩
  rw [hk]
  have HK := Lib.hid hk
  clear hk
  go_enter Tryd.func26, Tryd.ntmps26
  go_wp2
  all_goals go_ret
  all_goals refine ⟨ret_bool ?_, rfl⟩
  all_goals rw [← HK.out]
  all_goals clear HK
  all_goals first | exact (decide_eq_true (by simp_all [PrintR])).symm | (simp only [beq_eq_false_iff_ne, ne_eq] at *; exact (decide_eq_false (by unfold PrintR; omega)).symm)
end Go.Proofs.YtomoinohfoalnaaDoor.txc
