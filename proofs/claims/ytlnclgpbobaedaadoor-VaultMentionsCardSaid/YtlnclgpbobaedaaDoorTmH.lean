/- The live question of the law's package. -/
import Derived.Test.YtlnclgpbobaedaaDoorTmPb
import Derived.Test.YtlnclgpbobaedaaDoorTmS
namespace Go.Proofs.YtlnclgpbobaedaaDoor.tmc
open Go.RowKit Go.Proofs.YtlnclgpbobaedaaDoor.tlvc
set_option linter.unusedVariables false
def atom1 : Tm := .mk 1 1 [] []
theorem atom_right : rightF atom1 0 = true := by unfold atom1; rw [right_mk]; exact ⟨by omega, by decide, by simp, List.Pairwise.nil⟩
theorem pow1_right : rightF (pow0 exp0 atom1) 0 = true := by
  rw [pow0_one, right_mk]
  refine ⟨by omega, by decide, fun k hk => ?_, by simp⟩
  rw [List.mem_singleton] at hk
  subst hk
  unfold atom1; rw [right_mk]; exact ⟨by omega, by decide, by simp, List.Pairwise.nil⟩
theorem pow1 : powF exp0 atom1 = some (pow0 exp0 atom1) := by
  unfold powF
  rw [if_pos ⟨exp0_right, atom_right, rfl⟩, if_pos pow1_right]
theorem ord1 : ordT atom1 (pow0 exp0 atom1) = -1 := by
  rw [pow0_one]
  unfold atom1 ordT
  simp [Tm.op, cmpI, or0]
theorem sz1 : szT (pow0 exp0 atom1) = 2 := by
  rw [pow0_sz]
  unfold exp0 atom1 szT szTs
  rfl
theorem tm_leaf (B : Nat → Prop) (w : World) (o m : Int) (ho : I64 o) (hm : I64 m) : TmC B w (.mk o m [] []) (.int .i64 o) (.int .i64 m) (.slice none 0 0) (.slice none 0 0) := by
  unfold TmC
  exact ⟨rfl, ho, rfl, hm, ⟨none, 0, 0, rfl, Nat.le_refl _, Nat.zero_le _, Bys.nil_ _ _, fun h => absurd h (by omega)⟩, none, 0, rfl, Nat.le_refl _, Nat.zero_le _, fun h => absurd h (by simp)⟩
end Go.Proofs.YtlnclgpbobaedaaDoor.tmc
