/- What the law IntsMasks needs: plain facts. -/
import Derived.Test.YtcjjhjflijhijaaIntZ
namespace Go.Proofs.Ytcjjhjflijhijaa.intc
open Go.RowKit Go.Proofs.Ytcjjhjflijhijaa.tlvc Go.Proofs.Ytcjjhjflijhijaa.intm
set_option linter.unusedVariables false

theorem one_bit {K : Nat} (h : K < 16) : (putM (2 ^ K)).length = 2 + K / 8 ∧ (putM (2 ^ K)).getD 0 0 = 7 - ((K % 8 : Nat) : Int) ∧ (putM (2 ^ K)).getD (1 + K / 8) 0 = 2 ^ (7 - K % 8) ∧ (2 : Int) ^ K % 65536 = 2 ^ K ∧ U16 (2 ^ K) := by
  have key : ∀ i : Fin 16, (putM (2 ^ i.val)).length = 2 + i.val / 8 ∧ (putM (2 ^ i.val)).getD 0 0 = 7 - ((i.val % 8 : Nat) : Int) ∧ (putM (2 ^ i.val)).getD (1 + i.val / 8) 0 = 2 ^ (7 - i.val % 8) ∧ (2 : Int) ^ i.val % 65536 = 2 ^ i.val ∧ (0 ≤ (2 : Int) ^ i.val ∧ (2 : Int) ^ i.val ≤ 65535) := by decide +kernel
  exact key ⟨K, h⟩
theorem pow_zero_div {m : Int} {j : Nat} (h0 : 0 ≤ m) (h : m < 2 ^ j) : m / 2 ^ j % 2 = 0 := by
  rw [Int.ediv_eq_zero_of_lt h0 h]; rfl
theorem high_pow {m : Int} {j : Nat} (h : m < 256) (hj : 8 ≤ j) : m < 2 ^ j := by
  obtain ⟨k, rfl⟩ : ∃ k, j = 8 + k := ⟨j - 8, by omega⟩
  have hp : (0 : Int) < 2 ^ k := Int.pow_pos (by decide)
  rw [Int.pow_add]
  have : (2 : Int) ^ 8 = 256 := rfl
  rw [this]
  omega
theorem putM_bit {m : Int} (hm : U16 m) {j : Nat} (hj : j < 16) :
    (1 + j / 8 < (putM m).length → (putM m).getD (1 + j / 8) 0 / 2 ^ (7 - j % 8) % 2 = m / 2 ^ j % 2) ∧ (¬ 1 + j / 8 < (putM m).length → m / 2 ^ j % 2 = 0) := by
  have hm' := hm
  unfold U16 at hm'
  by_cases h0 : m = 0
  · subst h0
    have e : (putM 0).length = 1 := rfl
    rw [e]
    exact ⟨fun h => by omega, fun _ => by rw [Int.zero_ediv]; rfl⟩
  · by_cases hlow : m < 256
    · rw [putM_low (by omega) hlow]
      by_cases h8 : j < 8
      · have e1 : j / 8 = 0 := by omega
        have e2 : j % 8 = j := by omega
        have hr := rv_bd m
        have hb := rv_bit (b := rv m) hr.1 hr.2 h8
        rw [rv_rv (by omega) (by omega)] at hb
        rw [e1, e2]
        exact ⟨fun _ => hb, fun h => by simp at h⟩
      · exact ⟨fun h => by simp at h; omega, fun _ => pow_zero_div hm'.1 (high_pow hlow (by omega))⟩
    · rw [putM_high (by omega)]
      by_cases h8 : j < 8
      · have e1 : j / 8 = 0 := by omega
        have e2 : j % 8 = j := by omega
        have hr := rv_bd (m % 256)
        have hb := rv_bit (b := rv (m % 256)) hr.1 hr.2 h8
        rw [rv_rv (by omega) (by omega), bit_low hm h8] at hb
        rw [e1, e2]
        exact ⟨fun _ => hb, fun h => by simp at h⟩
      · obtain ⟨k, rfl⟩ : ∃ k, j = 8 + k := ⟨j - 8, by omega⟩
        have e1 : (8 + k) / 8 = 1 := by omega
        have e2 : (8 + k) % 8 = k := by omega
        have hr := rv_bd (m / 256)
        have hb := rv_bit (b := rv (m / 256)) hr.1 hr.2 (show k < 8 by omega)
        rw [rv_rv (by omega) (by omega), bit_high] at hb
        rw [e1, e2]
        exact ⟨fun _ => hb, fun h => by simp at h⟩
end Go.Proofs.Ytcjjhjflijhijaa.intc
