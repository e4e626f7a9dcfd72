/- What the law IntsShort needs: plain facts. -/
import Derived.Test.YtcjjhjflijhijaaIntZ
namespace Go.Proofs.Ytcjjhjflijhijaa.intc
open Go.RowKit Go.Proofs.Ytcjjhjflijhijaa.tlvc Go.Proofs.Ytcjjhjflijhijaa.intm
set_option linter.unusedVariables false

/-- What the law's loop has after k bytes. -/
def vS (ys : List Int) (k : Nat) : Int := if k = 0 then (if 128 ≤ ys.getD 0 0 then -1 else 0) else dec (ys.take k)
theorem vS_step {ys : List Int} {k : Nat} (hb : Bytes ys) (hk : k < ys.length) : vS ys (k + 1) = vS ys k * 256 + ys.getD k 0 := by
  by_cases h : k = 0
  · subst h
    have := dec_take_one (ys := ys) hk
    unfold vS
    rw [if_neg (by omega), if_pos rfl, this]
    unfold s8
    split <;> split <;> omega
  · unfold vS
    rw [if_neg (by omega), if_neg h]
    exact dec_take_succ hk (by omega)
theorem vS_room {ys : List Int} {k : Nat} (hb : Bytes ys) (hk : k ≤ 7) : -36028797018963968 ≤ vS ys k ∧ vS ys k ≤ 36028797018963967 := by
  unfold vS
  split
  · split <;> omega
  · exact dec_room hb hk
theorem vS_end {n : Int} {k : Nat} (hn : I64 n) (hk : k = (putI n).length) : vS (putI n) k = n := by
  have h1 := putI_length n
  have h2 := width_bd n
  unfold vS
  rw [if_neg (by omega), hk, List.take_of_length_le (Nat.le_refl _), dec_put hn]
theorem seven {c : Int} (h : 0 ≤ c ∧ c ≤ 255) : putI (c % 128) = [c % 128] ∧ bits .and .u8 c 127 = c % 128 := by
  refine ⟨?_, ?_⟩
  · rw [putI_one (by omega)]
    congr 1
    omega
  · exact bits_mask .u8 8 (by decide) (fun n h₀ h₁ => by rw [IntKind.wrap_u8]; omega) 7 (by decide) c h.1 (by omega)
theorem short_ways {n : Int} (hn : I64 n) {L : Nat} (hL : (putI n).length = L) :
    (¬ 1 < L ∧ True ∧ True ∧ True) ∨ (1 < L ∧ ((putI n).getD 0 0 == 0) = true ∧ ¬ (putI n).getD 1 0 < 128 ∧ ((putI n).getD 0 0 == 255) = false) ∨
    (1 < L ∧ ((putI n).getD 0 0 == 0) = false ∧ ((putI n).getD 0 0 == 255) = true ∧ ¬ 128 ≤ (putI n).getD 1 0) ∨ (1 < L ∧ ((putI n).getD 0 0 == 0) = false ∧ ((putI n).getD 0 0 == 255) = false ∧ True) := by
  by_cases h1 : 1 < L
  · have h2 := (least_two (xs := putI n) (by omega)).1 (putI_least hn)
    by_cases e0 : (putI n).getD 0 0 = 0
    · right; left
      refine ⟨h1, by simpa using e0, by omega, ?_⟩
      rw [beq_eq_false_iff_ne, e0]; decide
    · by_cases e5 : (putI n).getD 0 0 = 255
      · right; right; left
        exact ⟨h1, by rw [beq_eq_false_iff_ne]; exact e0, by rw [e5]; rfl, by omega⟩
      · right; right; right
        exact ⟨h1, by rw [beq_eq_false_iff_ne]; exact e0, by rw [beq_eq_false_iff_ne]; exact e5, trivial⟩
  · exact .inl ⟨h1, trivial, trivial, trivial⟩
end Go.Proofs.Ytcjjhjflijhijaa.intc
