/- What the law IntsBack needs: plain facts. -/
import Derived.Test.YtcjjhjflijhijaaIntAD
namespace Go.Proofs.Ytcjjhjflijhijaa.intc
open Go.RowKit Go.Proofs.Ytcjjhjflijhijaa.tlvc Go.Proofs.Ytcjjhjflijhijaa.intm
set_option linter.unusedVariables false

theorem intF_put {n : Int} (hn : I64 n) : intF (putI n) = (n, 0) := by
  have h1 := putI_length n
  have h2 := width_bd n
  have e : dec ((putI n).take 8) = n := by rw [List.take_of_length_le (by omega), dec_put hn]
  unfold intF
  rw [e, if_pos rfl]
theorem bitsF_put {m : Int} (hm : U16 m) : bitsF (putM m) = (m, 0) := by
  have h2 := putM_length m
  have e : maskF ((putM m).take 3) = m := by rw [List.take_of_length_le (by omega), maskF_putM hm]
  unfold bitsF
  rw [e, if_pos rfl]
theorem intF_ways (xs : List Int) (hf : Fit xs) : (∃ n, I64 n ∧ putI n = xs ∧ intF xs = (n, 0)) ∨ intF xs = (0, 21) := by
  unfold intF
  by_cases h : putI (dec (xs.take 8)) = xs
  · rw [if_pos h]; exact .inl ⟨_, take_i64 hf, h, rfl⟩
  · rw [if_neg h]; exact .inr rfl
theorem bitsF_ways (xs : List Int) : (∃ m, U16 m ∧ putM m = xs ∧ bitsF xs = (m, 0)) ∨ bitsF xs = (0, 24) := by
  unfold bitsF
  by_cases h : putM (maskF (xs.take 3)) = xs
  · rw [if_pos h]; exact .inl ⟨_, maskF_u16 _, h, rfl⟩
  · rw [if_neg h]; exact .inr rfl
theorem oidF_ways (xs : List Int) : (∃ l, objB l = true ∧ encO l = xs ∧ oidF xs = (l, 0)) ∨ oidF xs = ([], 22) := by
  unfold oidF
  by_cases h : objB (arcsF (xs.take 60)) = true ∧ encO (arcsF (xs.take 60)) = xs
  · rw [if_pos h]; exact .inl ⟨_, h.1, h.2, rfl⟩
  · rw [if_neg h]; exact .inr rfl
end Go.Proofs.Ytcjjhjflijhijaa.intc
