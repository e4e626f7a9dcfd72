/- The kinds of runes, as the program tells them. -/
import Derived.Test.YtomoinohfoalnaaDoorTxK
namespace Go.Proofs.YtomoinohfoalnaaDoor.txm
def Noth (r : Int) : Prop := r = 173 ∨ (8203 ≤ r ∧ r ≤ 8205) ∨ r = 65279
def Blank (r : Int) : Prop := r = 32 ∨ (9 ≤ r ∧ r ≤ 13) ∨ r = 133 ∨ r = 160 ∨ (8192 ≤ r ∧ r ≤ 8202) ∨ r = 8232 ∨ r = 8233 ∨ r = 8239 ∨ r = 12288
def Great (r : Int) : Prop := (65 ≤ r ∧ r ≤ 90) ∨ (192 ≤ r ∧ r ≤ 214) ∨ (216 ≤ r ∧ r ≤ 222) ∨ (913 ≤ r ∧ r ≤ 929) ∨ (931 ≤ r ∧ r ≤ 937) ∨ (1040 ≤ r ∧ r ≤ 1071)
instance (r : Int) : Decidable (Noth r) := by unfold Noth; infer_instance
instance (r : Int) : Decidable (Blank r) := by unfold Blank; infer_instance
instance (r : Int) : Decidable (Great r) := by unfold Great; infer_instance
def kindF (r : Int) : Int := if Noth r then 1 else if Blank r then 2 else if Great r then 3 else 0
theorem kind_n {r : Int} (h : Noth r) : kindF r = 1 := if_pos h
theorem kind_b {r : Int} (h : Blank r) : kindF r = 2 := by
  unfold kindF
  rw [if_neg (by unfold Noth; unfold Blank at h; omega), if_pos h]
theorem kind_g {r : Int} (h : Great r) : kindF r = 3 := by
  unfold kindF
  rw [if_neg (by unfold Noth; unfold Great at h; omega), if_neg (by unfold Blank; unfold Great at h; omega), if_pos h]
theorem kind_0 {r : Int} (h1 : ¬ Noth r) (h2 : ¬ Blank r) (h3 : ¬ Great r) : kindF r = 0 := by
  unfold kindF; rw [if_neg h1, if_neg h2, if_neg h3]
end Go.Proofs.YtomoinohfoalnaaDoor.txm
namespace Go.Proofs.YtomoinohfoalnaaDoor.txc
open Go.RowKit Go.Proofs.YtomoinohfoalnaaDoor.txm Go.Proofs.YtomoinohfoalnaaDoor.tlvc
set_option linter.unusedVariables false
set_option maxRecDepth 100000 in
set_option maxHeartbeats 4000000 in
theorem kindOf_any (r : Int) (w : World) :
    Calls Tryd.prog 31 #[.int .i32 r] w fun e w' => e = .returned (.int .i64 (kindF r)) ∧ w = w' := by
  obtain ⟨k, hk⟩ : ∃ k, kindF r = k := ⟨_, rfl⟩
  rw [hk]
  have HK := Lib.hid hk
  clear hk
  go_enter Tryd.func31, Tryd.ntmps31
  go_wp2
  all_goals go_ret
  all_goals refine ⟨ret_i64 ?_, rfl⟩
  all_goals rw [← HK.out]
  all_goals clear HK
  all_goals first | (rw [kind_n (by simp_all [Noth])]; done) | (rw [kind_b (by simp_all [Blank])]; done) | (rw [kind_g (by simp_all [Great])]; done) | skip
  all_goals (simp only [beq_eq_false_iff_ne, ne_eq] at *; rw [kind_0 (by unfold Noth; omega) (by unfold Blank; omega) (by unfold Great; omega)])
end Go.Proofs.YtomoinohfoalnaaDoor.txc
