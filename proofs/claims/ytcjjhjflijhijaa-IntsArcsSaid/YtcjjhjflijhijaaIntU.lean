/- Plain facts on masks' bodies; math/bits: Reverse8 and Len16. -/
import Derived.Test.YtcjjhjflijhijaaIntH
import Derived.Lib.BitFns
import Derived.Lib.Walk
import Derived.Lib.Small
namespace Go.Proofs.Ytcjjhjflijhijaa.intm
open Go.RowKit
set_option linter.unusedVariables false

/-- A byte's bits in the other order. -/
def rv (x : Int) : Int := x % 2 * 128 + x / 2 % 2 * 64 + x / 4 % 2 * 32 + x / 8 % 2 * 16 + x / 16 % 2 * 8 + x / 32 % 2 * 4 + x / 64 % 2 * 2 + x / 128 % 2
theorem rv_bd (x : Int) : 0 ≤ rv x ∧ rv x ≤ 255 := by unfold rv; omega
theorem byte_of {p : Int → Prop} (key : ∀ k : Fin 256, p (k.val : Int)) {x : Int} (h0 : 0 ≤ x) (h : x ≤ 255) : p x := by
  obtain ⟨k, rfl⟩ := Int.eq_ofNat_of_zero_le h0
  exact key ⟨k, by omega⟩
theorem rv_rv {x : Int} (h0 : 0 ≤ x) (h : x ≤ 255) : rv (rv x) = x := byte_of (p := fun x => rv (rv x) = x) (by decide +kernel) h0 h
theorem rv_zero {x : Int} (h0 : 0 ≤ x) (h : x ≤ 255) (e : rv x = 0) : x = 0 := byte_of (p := fun x => rv x = 0 → x = 0) (by decide +kernel) h0 h e
/-- How many bits a byte has. -/
def lenB (x : Int) : Int :=
  if x < 1 then 0 else if x < 2 then 1 else if x < 4 then 2 else if x < 8 then 3 else if x < 16 then 4 else if x < 32 then 5 else if x < 64 then 6 else if x < 128 then 7 else 8
def len16 (m : Int) : Int := if m < 256 then lenB m else 8 + lenB (m / 256)
theorem lenB_bd {x : Int} (h : 1 ≤ x) : 1 ≤ lenB x ∧ lenB x ≤ 8 := by
  unfold lenB; repeat' split
  all_goals omega
/-- One bit more. -/
theorem rv_step {b : Int} (h0 : 0 ≤ b) (h : b ≤ 255) {j : Nat} (hj : j < 8) :
    (b / 2 ^ j % 2 = 1 → rv (b % 2 ^ (j + 1)) = rv (b % 2 ^ j) + 2 ^ (7 - j) ∧ bits .or .u8 (rv (b % 2 ^ j)) (2 ^ (7 - j)) = rv (b % 2 ^ j) + 2 ^ (7 - j)) ∧ (b / 2 ^ j % 2 = 0 → rv (b % 2 ^ (j + 1)) = rv (b % 2 ^ j)) := by
  have key : ∀ k : Fin 256, ∀ i : Fin 8, ((k.val : Int) / 2 ^ i.val % 2 = 1 → rv ((k.val : Int) % 2 ^ (i.val + 1)) = rv ((k.val : Int) % 2 ^ i.val) + 2 ^ (7 - i.val) ∧ bits .or .u8 (rv ((k.val : Int) % 2 ^ i.val)) (2 ^ (7 - i.val)) = rv ((k.val : Int) % 2 ^ i.val) + 2 ^ (7 - i.val)) ∧ ((k.val : Int) / 2 ^ i.val % 2 = 0 → rv ((k.val : Int) % 2 ^ (i.val + 1)) = rv ((k.val : Int) % 2 ^ i.val)) := by decide +kernel
  obtain ⟨k, rfl⟩ := Int.eq_ofNat_of_zero_le h0
  exact key ⟨k, by omega⟩ ⟨j, hj⟩
theorem rv_bit {b : Int} (h0 : 0 ≤ b) (h : b ≤ 255) {j : Nat} (hj : j < 8) : b / 2 ^ (7 - j) % 2 = rv b / 2 ^ j % 2 := by
  have key : ∀ k : Fin 256, ∀ i : Fin 8, (k.val : Int) / 2 ^ (7 - i.val) % 2 = rv (k.val : Int) / 2 ^ i.val % 2 := by decide +kernel
  obtain ⟨k, rfl⟩ := Int.eq_ofNat_of_zero_le h0
  exact key ⟨k, by omega⟩ ⟨j, hj⟩

def U16 (m : Int) : Prop := 0 ≤ m ∧ m ≤ 65535
/-- A mask's body. -/
def putM (m : Int) : List Int :=
  if m = 0 then [0] else if m < 256 then [8 - lenB m, rv m] else [8 - lenB (m / 256), rv (m % 256), rv (m / 256)]
theorem putM_bytes (m : Int) (h : U16 m) : ∀ x ∈ putM m, 0 ≤ x ∧ x ≤ 255 := by
  unfold U16 at h
  intro x hx
  unfold putM at hx
  split at hx
  · simp at hx; omega
  · split at hx
    · have := lenB_bd (x := m) (by omega)
      have := rv_bd m
      simp at hx; omega
    · have := lenB_bd (x := m / 256) (by omega)
      have := rv_bd (m % 256)
      have := rv_bd (m / 256)
      simp at hx; omega
theorem putM_length (m : Int) : 1 ≤ (putM m).length ∧ (putM m).length ≤ 3 := by
  unfold putM
  split
  · simp
  · split <;> simp
/-- What a body tells, its first byte aside. -/
def maskF : List Int → Int
  | _ :: b :: c :: _ => rv b + 256 * rv c
  | _ :: b :: _ => rv b
  | _ => 0
theorem maskF_u16 (xs : List Int) : U16 (maskF xs) := by
  unfold U16
  match xs with
  | [] => simp [maskF]
  | [_] => simp [maskF]
  | [_, b] => have := rv_bd b; simp [maskF]; omega
  | _ :: b :: c :: _ => have := rv_bd b; have := rv_bd c; simp [maskF]; omega
theorem maskF_putM {m : Int} (h : U16 m) : maskF (putM m) = m := by
  unfold U16 at h
  unfold putM
  split
  · rename_i e; rw [e]; rfl
  · split
    · exact rv_rv (by omega) (by omega)
    · show rv (rv (m % 256)) + 256 * rv (rv (m / 256)) = m
      rw [rv_rv (by omega) (by omega), rv_rv (by omega) (by omega)]
      omega
/-- What Bits answers: the mask and the error. -/
def bitsF (xs : List Int) : Int × Int := if putM (maskF (xs.take 3)) = xs then (maskF (xs.take 3), 0) else (0, 24)
end Go.Proofs.Ytcjjhjflijhijaa.intm

namespace Go.Proofs.Ytcjjhjflijhijaa.intc
open Go.RowKit Go.Proofs.Ytcjjhjflijhijaa.tlvc Go.Proofs.Ytcjjhjflijhijaa.intm
set_option linter.unusedVariables false

theorem lib_rev8 {x : Int} (h0 : 0 ≤ x) (h : x ≤ 255) : Lib.rev8 x = rv x := byte_of (p := fun x => Lib.rev8 x = rv x) (by decide +kernel) h0 h
theorem lib_len8 {x : Int} (h0 : 0 ≤ x) (h : x ≤ 255) : Lib.len8 x = lenB x := byte_of (p := fun x => Lib.len8 x = lenB x) (by decide +kernel) h0 h

set_option maxHeartbeats 4000000 in
set_option maxRecDepth 100000 in
theorem rev8_any (x : Int) (w : World) (h0 : 0 ≤ x) (h : x ≤ 255) :
    Calls Try.prog 45 #[.int .u8 x] w fun e w' => e = .returned (.int .u8 (rv x)) ∧ w = w' := by
  rw [← lib_rev8 h0 h]
  go_enter Try.func45, Try.ntmps45
  go_wp2
  go_ret
  exact ⟨rfl, rfl⟩

set_option maxHeartbeats 4000000 in
set_option maxRecDepth 100000 in
theorem len16_any (x : Int) (w : World) (h0 : 0 ≤ x) (h : x ≤ 65535) :
    Calls Try.prog 44 #[.int .u16 x] w fun e w' => e = .returned (.int .i64 (len16 x)) ∧ w = w' := by
  by_cases hx : x < 256
  · have e : len16 x = lenB x := by unfold len16; rw [if_pos hx]
    have hl := lib_len8 h0 (show x ≤ 255 by omega)
    have hx1 : x ≤ 255 := by omega
    obtain ⟨L, hL⟩ : ∃ L, lenB x = L := ⟨_, rfl⟩
    have hb : 0 ≤ L ∧ L ≤ 8 := by rw [← hL]; unfold lenB; repeat' split
                                  all_goals omega
    rw [hL] at hl
    rw [e, hL]
    clear e hL
    go_enter Try.func44, Try.ntmps44
    go_wp2
    go_ret
    exact ⟨rfl, rfl⟩
  · have e : len16 x = 8 + lenB (x / 256) := by unfold len16; rw [if_neg hx]
    have hx0 : 0 ≤ x / 256 := by omega
    have hx1 : x / 256 ≤ 255 := by omega
    have hl := lib_len8 hx0 hx1
    obtain ⟨L, hL⟩ : ∃ L, lenB (x / 256) = L := ⟨_, rfl⟩
    have hb : 0 ≤ L ∧ L ≤ 8 := by rw [← hL]; unfold lenB; repeat' split
                                  all_goals omega
    rw [hL] at hl
    rw [e, hL]
    clear e hL
    go_enter Try.func44, Try.ntmps44
    go_wp2
    go_ret
    exact ⟨rfl, rfl⟩
end Go.Proofs.Ytcjjhjflijhijaa.intc
