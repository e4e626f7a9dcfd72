/- The order of numbers' bodies: plain facts. -/
import Derived.Test.YtcjjhjflijhijaaIntZ
import Derived.WalkLawsBesides
namespace Go.Proofs.Ytcjjhjflijhijaa.intc
open Go.RowKit Go.Proofs.Ytcjjhjflijhijaa.tlvc Go.Proofs.Ytcjjhjflijhijaa.intm
set_option linter.unusedVariables false

theorem decFrom_split (r : List Int) : ∀ a : Int, decFrom a r = a * 256 ^ r.length + decFrom 0 r := by
  induction r with
  | nil => intro a; simp [decFrom]
  | cons x r ih =>
    intro a
    have e : ∀ a, decFrom a (x :: r) = decFrom (a * 256 + x) r := fun _ => rfl
    rw [e, e, ih, ih (0 * 256 + x), List.length_cons, Int.pow_succ, Int.add_mul, Int.zero_mul, Int.zero_add, Int.mul_assoc, Int.mul_comm 256]
    omega
theorem byte_lt {x y : Int} (hx : 0 ≤ x ∧ x ≤ 255) (hy : 0 ≤ y ∧ y ≤ 255) : (UInt8.ofNat x.toNat < UInt8.ofNat y.toNat) ↔ x < y := by
  rw [UInt8.lt_iff_toNat_lt]
  simp only [UInt8.toNat_ofNat']
  omega
theorem byte_eq {x y : Int} (hx : 0 ≤ x ∧ x ≤ 255) (hy : 0 ≤ y ∧ y ≤ 255) : (UInt8.ofNat x.toNat = UInt8.ofNat y.toNat) ↔ x = y := by
  rw [← UInt8.toNat_inj]
  simp only [UInt8.toNat_ofNat']
  omega
theorem less_iff : ∀ (xs ys : List Int), Fit xs → Fit ys → xs.length = ys.length → Op.bytesLess (Lib.bytesOf xs) (Lib.bytesOf ys) = decide (decFrom 0 xs < decFrom 0 ys)
  | [], [], _, _, _ => by simp [Lib.bytesOf, Op.bytesLess, decFrom]
  | x :: xs, y :: ys, hx, hy, hl => by
    have hl' : xs.length = ys.length := by simpa using hl
    have hx0 := hx x (by simp)
    have hy0 := hy y (by simp)
    have hxs : Fit xs := fun z hz => hx z (by simp [hz])
    have hys : Fit ys := fun z hz => hy z (by simp [hz])
    have ih := less_iff xs ys hxs hys hl'
    have h1 := decFrom_mono xs hxs 0
    have h2 := decFrom_mono ys hys 0
    have e : ∀ (a : Int) z zs, decFrom a (z :: zs) = decFrom (a * 256 + z) zs := fun _ _ _ => rfl
    simp only [Lib.bytesOf, List.map_cons, Op.bytesLess] at ih ⊢
    rw [ih, e, e, decFrom_split xs (0 * 256 + x), decFrom_split ys (0 * 256 + y), hl']
    rw [hl'] at h1
    have hp : (0 : Int) < 256 ^ ys.length := Int.pow_pos (by decide)
    generalize (256 : Int) ^ ys.length = P at *
    generalize decFrom 0 xs = u at *
    generalize decFrom 0 ys = v at *
    rcases Int.lt_trichotomy x y with h | h | h
    · have hb : UInt8.ofNat x.toNat < UInt8.ofNat y.toNat := (byte_lt hx0 hy0).2 h
      have hm := Int.mul_le_mul_of_nonneg_right (show x + 1 ≤ y by omega) (Int.le_of_lt hp)
      rw [Int.add_mul] at hm
      simp only [hb, decide_true, Bool.true_or, Int.zero_mul, Int.zero_add]
      symm
      simp only [decide_eq_true_eq]
      omega
    · subst h
      simp only [Int.zero_mul, Int.zero_add, beq_self_eq_true, Bool.true_and]
      have hb : ¬ UInt8.ofNat x.toNat < UInt8.ofNat x.toNat := by rw [byte_lt hx0 hx0]; omega
      simp only [hb, decide_false, Bool.false_or]
      rw [decide_eq_decide]
      omega
    · have hb : ¬ UInt8.ofNat x.toNat < UInt8.ofNat y.toNat := by rw [byte_lt hx0 hy0]; omega
      have hne : (UInt8.ofNat x.toNat == UInt8.ofNat y.toNat) = false := by
        rw [beq_eq_false_iff_ne, ne_eq, byte_eq hx0 hy0]; omega
      have hm := Int.mul_le_mul_of_nonneg_right (show y + 1 ≤ x by omega) (Int.le_of_lt hp)
      rw [Int.add_mul] at hm
      simp only [hb, hne, decide_false, Bool.false_or, Bool.false_and, Int.zero_mul, Int.zero_add]
      symm
      simp only [decide_eq_false_iff_not]
      omega
theorem dec_high {n : Int} (hn : I64 n) (h0 : 0 ≤ n) : decFrom 0 (putI n) = n := by
  have h1 := dec_put hn
  have hb := putI_bytes n
  have hl := putI_length n
  have hw := width_bd n
  match hp : putI n with
  | [] => rw [hp] at hl; simp at hl; omega
  | b :: r =>
    rw [hp] at h1 hb
    have hb0 := hb b (by simp)
    have hr : Bytes r := fun z hz => hb z (by simp [hz])
    have hm := decFrom_mono r hr 0
    have e1 : dec (b :: r) = decFrom (s8 b) r := rfl
    have e2 : decFrom 0 (b :: r) = decFrom (0 * 256 + b) r := rfl
    rw [e1] at h1
    rw [e2, Int.zero_mul, Int.zero_add]
    by_cases hlt : b < 128
    · unfold s8 at h1; rw [if_pos hlt] at h1; exact h1
    · exfalso
      unfold s8 at h1
      rw [if_neg hlt, decFrom_split] at h1
      have hp : (0 : Int) < 256 ^ r.length := Int.pow_pos (by decide)
      generalize (256 : Int) ^ r.length = P at *
      have hm2 := Int.mul_le_mul_of_nonneg_right (show b - 256 ≤ -1 by omega) (Int.le_of_lt hp)
      omega
theorem less_put {a b : Int} (ha : I64 a) (hb : I64 b) (h0 : 0 ≤ a) (h1 : 0 ≤ b) (hl : (putI a).length = (putI b).length) :
    Op.bytesLess (strOfNums (putI a)).toList (strOfNums (putI b)).toList = decide (a < b) := by
  rw [Lib.strOfNums_toList, Lib.strOfNums_toList, less_iff _ _ (putI_bytes a) (putI_bytes b) hl, dec_high ha h0, dec_high hb h1]
theorem width_up {a b : Int} (h0 : 0 ≤ a) (h1 : 0 ≤ b) (h : (putI a).length < (putI b).length) : a < b := by
  rw [putI_length, putI_length] at h
  refine Int.not_le.1 fun hle => ?_
  unfold width at h
  repeat' split at h
  all_goals omega
theorem width_down {a b : Int} (h0 : a < 0) (h1 : b < 0) (h : (putI a).length < (putI b).length) : b < a := by
  rw [putI_length, putI_length] at h
  refine Int.not_le.1 fun hle => ?_
  unfold width at h
  repeat' split at h
  all_goals omega
end Go.Proofs.Ytcjjhjflijhijaa.intc
