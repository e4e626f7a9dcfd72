/- The laws' live question. -/
import Derived.Test.YtfmdmahlljbbmaaGreatDoorVm
import Derived.Test.YtfmdmahlljbbmaaGreatDoorVo
namespace Go.Proofs.YtfmdmahlljbbmaaGreatDoor.vtc
open Go.RowKit Go.Proofs.YtfmdmahlljbbmaaGreatDoor.tlvc Go.Proofs.YtfmdmahlljbbmaaGreatDoor.tmc
set_option linter.unusedVariables false
def ta : Tm := .mk 1 1 [] []
def tp : Tm := .mk 2 0 [] [ta]
theorem ta_right : ∀ outer, outer < 16 → rightF ta outer = true := fun outer h => by
  unfold ta
  rw [right_mk]
  exact ⟨h, by decide, by simp, List.Pairwise.nil⟩
theorem tp_right : rightF tp 0 = true := by
  unfold tp
  rw [right_mk]
  refine ⟨by omega, by decide, fun k hk => ?_, by simp⟩
  rw [List.mem_singleton.1 hk]
  exact ta_right 1 (by omega)
theorem tp_size : szT tp = 2 := by
  unfold tp ta
  rw [szT_kids, szTs_two, szT_kids]
  rfl
theorem tp_intern : internV tp [] = (1, 0, [ta, tp]) := by
  have e1 : putV ta [] = [ta] := by
    unfold ta
    rw [putV_new (by simp), putsV_nil]
    rfl
  have e : putV tp [] = [ta, tp] := by
    show putV (.mk 2 0 [] [ta]) [] = _
    rw [putV_new (by simp), putsV_cons, putsV_nil, e1]
    rfl
  rw [intern_new tp_right rfl (by rw [tp_size]; decide), e]
  rfl
theorem tm_atom (B : Nat → Prop) (w : World) : TmC B w ta (.int .i64 1) (.int .i64 1) (.slice none 0 0) (.slice none 0 0) := by
  unfold ta TmC
  exact ⟨rfl, by unfold I64; omega, rfl, by unfold I64; omega, ⟨none, 0, 0, rfl, Nat.le_refl _, Nat.zero_le _, Bys.nil_ _ _, fun h => absurd h (by omega)⟩, none, 0, rfl, Nat.le_refl _, Nat.zero_le _, fun h => absurd h (by simp)⟩
theorem mut_base {b g : Nat} (h : Mut (b + 1) b none g) : b ≤ g := by
  rcases h with h | h | h
  · omega
  · omega
  · cases h
end Go.Proofs.YtfmdmahlljbbmaaGreatDoor.vtc
