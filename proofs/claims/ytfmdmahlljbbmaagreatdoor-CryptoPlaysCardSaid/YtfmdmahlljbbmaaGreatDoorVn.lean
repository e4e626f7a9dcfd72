/- A number's bytes, and bytes' number: the program's. -/
import Derived.Test.YtfmdmahlljbbmaaGreatDoorVa
import Derived.Test.YtfmdmahlljbbmaaGreatDoorTc
import Derived.Deep.LoopGhost
namespace Go.Proofs.YtfmdmahlljbbmaaGreatDoor.vtc
open Go.RowKit Go.Proofs.YtfmdmahlljbbmaaGreatDoor.tlvc Go.Proofs.YtfmdmahlljbbmaaGreatDoor.tmc
set_option linter.unusedVariables false
/-- 'x | y' where y lies below 2^i and x is a multiple of 2^i, x of any sign. -/
theorem or_i64 (i : Nat) (hi : i ≤ 63) (x y : Int) (hx : I64 x) (hm : x % 2 ^ i = 0) (hy0 : 0 ≤ y) (hy : y < 2 ^ i) : bits .or .i64 x y = x + y := by
  unfold I64 at hx
  obtain ⟨b, rfl⟩ := Int.eq_ofNat_of_zero_le hy0
  have hb' : b < 2 ^ i := by exact_mod_cast hy
  have h63 : (2 : Nat) ^ i ≤ 2 ^ 63 := Nat.pow_le_pow_right (by decide) hi
  have hb : b < 18446744073709551616 := by omega
  obtain ⟨a, ha⟩ : ∃ a : Nat, x % 18446744073709551616 = a := Int.eq_ofNat_of_zero_le (by omega)
  have ha2 : a < 18446744073709551616 := by omega
  have hdv : (18446744073709551616 : Int) % 2 ^ i = 0 := by
    obtain ⟨k, hk⟩ : ∃ k, 64 = i + k := ⟨64 - i, by omega⟩
    have e : (18446744073709551616 : Int) = 2 ^ i * 2 ^ k := by rw [← Int.pow_add, ← hk]; rfl
    rw [e]; exact Int.mul_emod_right _ _
  have hd : a % 2 ^ i = 0 := by
    have h1 : ((a : Int)) % 2 ^ i = 0 := by
      rw [← ha, Int.emod_def x, Int.sub_emod, hm, Int.mul_emod, hdv]; simp
    exact_mod_cast h1
  have h1 : (BitVec.ofInt 64 x).toNat = a := by
    rw [BitVec.toNat_ofInt]
    show (x % 18446744073709551616).toNat = a
    rw [ha]; rfl
  have h2 : (BitVec.ofInt 64 (b : Int)).toNat = b := by
    rw [BitVec.ofInt_natCast, BitVec.toNat_ofNat]; exact Nat.mod_eq_of_lt (by omega)
  have hq : a = 2 ^ i * (a / 2 ^ i) := by have := Nat.div_add_mod a (2 ^ i); omega
  have hor : a ||| b = a + b := by
    rw [hq, ← Nat.two_pow_add_eq_or_of_lt hb' (a / 2 ^ i)]
  have hlt : a ||| b < 2 ^ 64 := Nat.or_lt_two_pow (by omega) (by omega)
  show IntKind.i64.wrap ((BitVec.ofInt 64 x ||| BitVec.ofInt 64 (b : Int)).toNat : Int) = _
  rw [BitVec.toNat_or, h1, h2, IntKind.wrap_i64]
  rw [hor] at hlt ⊢
  rw [show (2 : Nat) ^ 64 = 18446744073709551616 from rfl] at hlt
  have hup : x + 2 ^ i ≤ 9223372036854775808 := by
    obtain ⟨k, hk⟩ : ∃ k, 63 = i + k := ⟨63 - i, by omega⟩
    have e : (9223372036854775808 : Int) = 2 ^ i * 2 ^ k := by rw [← Int.pow_add, ← hk]; rfl
    have ex : x = 2 ^ i * (x / 2 ^ i) := by have := Int.mul_ediv_add_emod x (2 ^ i); omega
    have hp : (0 : Int) < 2 ^ i := Int.pow_pos (by decide)
    have hlt : x / 2 ^ i < 2 ^ k := by
      refine Int.lt_of_mul_lt_mul_left (a := 2 ^ i) ?_ (Int.le_of_lt hp)
      rw [← e, ← ex]; omega
    have := Int.mul_le_mul_of_nonneg_left (show x / 2 ^ i + 1 ≤ 2 ^ k by omega) (Int.le_of_lt hp)
    rw [Int.mul_add, ← ex, ← e] at this
    omega
  omega
def accF (b : List Int) : Nat → Int
  | 0 => 0
  | i + 1 => accF b i * 256 + b.getD (2 + i) 0
theorem accF_bd {b : List Int} (hf : Fit b) : ∀ i, 0 ≤ accF b i ∧ accF b i < 256 ^ i
  | 0 => by unfold accF; omega
  | i + 1 => by
    have := accF_bd hf i
    have h := hf.getD (2 + i)
    unfold accF
    rw [Int.pow_succ]
    omega
theorem pow_le6 {i : Nat} (h : i ≤ 5) : (256 : Int) ^ i ≤ 1099511627776 := by
  match i, h with
  | 0, _ => decide
  | 1, _ => decide
  | 2, _ => decide
  | 3, _ => decide
  | 4, _ => decide
  | 5, _ => decide
theorem numF_yes {b : List Int} (h : b.length = 8 ∧ b.getD 0 0 = 193 ∧ b.getD 1 0 = 94) : numF b = some (accF b 6) := by
  unfold numF
  rw [if_pos h]
  congr 1
  simp only [accF, Nat.reduceAdd]
  omega
theorem numF_no {b : List Int} (h : ¬ (b.length = 8 ∧ b.getD 0 0 = 193 ∧ b.getD 1 0 = 94)) : numF b = none := if_neg h
def NumPost (w : World) (r : Option Int) (e : Ending) (w' : World) : Prop := e = .returned (.tuple #[.int .i64 (r.getD (-1)), .bool r.isSome]) ∧ w' = w
end Go.Proofs.YtfmdmahlljbbmaaGreatDoor.vtc
