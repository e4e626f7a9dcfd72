/- Ends of layer 7's laws, plain. -/
import Derived.Test.YtfmdmahlljbbmaaGreatDoorCf
namespace Go.Proofs.YtfmdmahlljbbmaaGreatDoor.vtc
open Go.RowKit Go.Proofs.YtfmdmahlljbbmaaGreatDoor.tlvc Go.Proofs.YtfmdmahlljbbmaaGreatDoor.tmc
set_option linter.unusedVariables false
theorem powers_ok {L L1 L2 L4 L5 L6 : List Tm} {x y p q r s g m : Int} (hL : Good L) (h1 : ofF L 7 x [] = (p, 0, L1)) (h2 : ofF L1 7 y [] = (q, 0, L2)) (hp : L2 <+: L4) (hg : Good L4) (h5 : powL L4 p y = (r, g, L5)) (h6 : powL L5 q x = (s, m, L6)) : (g = 0 → m = 0 → r = s) ∧ (p == q) = (x == y) := by
  obtain ⟨t, k1, k2, k3, k4, k5⟩ := of_ok hL h1
  obtain ⟨u, j1, j2, j3, j4, j5⟩ := of_ok k5 h2
  have hx := hand_pre hp (hand_pre j4 k2)
  have hpp := hand_pre hp (hand_pre j4 k3)
  have hy := hand_pre hp j2
  have hq := hand_pre hp j3
  refine ⟨fun e1 e2 => ?_, ?_⟩
  · subst e1 e2
    exact pow_same hg hpp hq hx hy h5 h6
  · rw [Bool.eq_iff_iff, beq_iff_eq, beq_iff_eq]
    constructor
    · intro e
      rw [e, hq] at hpp
      have := Option.some.inj hpp
      simp only [Tm.mk.injEq, List.cons.injEq, and_true, true_and] at this
      exact hand_inj hg.once hx (by rw [← this]; exact hy)
    · intro e
      rw [e, hy] at hx
      have := Option.some.inj hx
      exact hand_inj hg.once hpp (by rw [← this]; exact hq)
theorem str_same {a b : List Int} (ha : Fit a) (hb : Fit b) : ((strOfNums a).toList == (strOfNums b).toList) = decide (a = b) := by
  have h : sameB a b = decide (a = b) := by rw [Bool.eq_iff_iff, sameB_iff ha hb, decide_eq_true_iff]
  exact h
theorem beq_dec (a b : Int) : (a == b) = decide (a = b) := by rw [Bool.eq_iff_iff]; simp
end Go.Proofs.YtfmdmahlljbbmaaGreatDoor.vtc
