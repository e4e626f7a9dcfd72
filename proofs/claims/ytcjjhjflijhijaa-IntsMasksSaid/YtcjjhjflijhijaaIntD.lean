/- What a number's body tells: the program's number, and Int. -/
import Derived.Test.YtcjjhjflijhijaaIntC
namespace Go.Proofs.Ytcjjhjflijhijaa.intc
open Go.RowKit Go.Proofs.Ytcjjhjflijhijaa.tlvc Go.Proofs.Ytcjjhjflijhijaa.intm
set_option linter.unusedVariables false

/-- 'x | y' where y lies below 2^i and x is a multiple of 2^i, x of any sign. -/
theorem or_i64 (i : Nat) (hi : i ≤ 63) (x y : Int) (hx : I64 x) (hm : x % 2 ^ i = 0) (hy0 : 0 ≤ y) (hy : y < 2 ^ i) : bits .or .i64 x y = x + y := by
  unfold I64 at hx
  obtain ⟨b, rfl⟩ := Int.eq_ofNat_of_zero_le hy0
  have hb' : b < 2 ^ i := by exact_mod_cast hy
  have h63 : (2 : Nat) ^ i ≤ 2 ^ 63 := Nat.pow_le_pow_right (by decide) hi
  have hb : b < 18446744073709551616 := by omega
  obtain ⟨a, ha⟩ : ∃ a : Nat, x % 18446744073709551616 = a := Int.eq_ofNat_of_zero_le (by omega)
  have ha2 : a < 18446744073709551616 := by omega
  have hdv : (18446744073709551616 : Int) % 2 ^ i = 0 := by
    obtain ⟨k, hk⟩ : ∃ k, 64 = i + k := ⟨64 - i, by omega⟩
    have e : (18446744073709551616 : Int) = 2 ^ i * 2 ^ k := by rw [← Int.pow_add, ← hk]; rfl
    rw [e]; exact Int.mul_emod_right _ _
  have hd : a % 2 ^ i = 0 := by
    have h1 : ((a : Int)) % 2 ^ i = 0 := by
      rw [← ha, Int.emod_def x, Int.sub_emod, hm, Int.mul_emod, hdv]; simp
    exact_mod_cast h1
  have h1 : (BitVec.ofInt 64 x).toNat = a := by
    rw [BitVec.toNat_ofInt]
    show (x % 18446744073709551616).toNat = a
    rw [ha]; rfl
  have h2 : (BitVec.ofInt 64 (b : Int)).toNat = b := by
    rw [BitVec.ofInt_natCast, BitVec.toNat_ofNat]; exact Nat.mod_eq_of_lt (by omega)
  have hq : a = 2 ^ i * (a / 2 ^ i) := by have := Nat.div_add_mod a (2 ^ i); omega
  have hor : a ||| b = a + b := by
    rw [hq, ← Nat.two_pow_add_eq_or_of_lt hb' (a / 2 ^ i)]
  have hlt : a ||| b < 2 ^ 64 := Nat.or_lt_two_pow (by omega) (by omega)
  show IntKind.i64.wrap ((BitVec.ofInt 64 x ||| BitVec.ofInt 64 (b : Int)).toNat : Int) = _
  rw [BitVec.toNat_or, h1, h2, IntKind.wrap_i64]
  rw [hor] at hlt ⊢
  rw [show (2 : Nat) ^ 64 = 18446744073709551616 from rfl] at hlt
  have hup : x + 2 ^ i ≤ 9223372036854775808 := by
    obtain ⟨k, hk⟩ : ∃ k, 63 = i + k := ⟨63 - i, by omega⟩
    have e : (9223372036854775808 : Int) = 2 ^ i * 2 ^ k := by rw [← Int.pow_add, ← hk]; rfl
    have ex : x = 2 ^ i * (x / 2 ^ i) := by have := Int.mul_ediv_add_emod x (2 ^ i); omega
    have hp : (0 : Int) < 2 ^ i := Int.pow_pos (by decide)
    have hlt : x / 2 ^ i < 2 ^ k := by
      refine Int.lt_of_mul_lt_mul_left (a := 2 ^ i) ?_ (Int.le_of_lt hp)
      rw [← e, ← ex]; omega
    have := Int.mul_le_mul_of_nonneg_left (show x / 2 ^ i + 1 ≤ 2 ^ k by omega) (Int.le_of_lt hp)
    rw [Int.mul_add, ← ex, ← e] at this
    omega
  omega

theorem bys_fits {w : World} {A : Option Addr} {n : Nat} {xs : List Int} (h : Bys w A n xs) : Bytes xs := fun x hx => h.fit x hx

theorem dec_take_succ {ys : List Int} {k : Nat} (hk : k < ys.length) (h1 : 1 ≤ k) : dec (ys.take (k + 1)) = dec (ys.take k) * 256 + ys.getD k 0 := by
  rw [List.take_succ_eq_append_getElem hk, dec_snoc]
  · simp [List.getD_eq_getElem?_getD, List.getElem?_eq_getElem hk]
  · intro e
    have := congrArg List.length e
    rw [List.length_take, List.length_nil] at this
    omega
theorem dec_take_one {ys : List Int} (h : 0 < ys.length) : dec (ys.take 1) = s8 (ys.getD 0 0) := by
  match ys, h with
  | y :: r, _ => rfl
/-- Of fewer than eight bytes there is room for one more. -/
theorem dec_room {ys : List Int} {k : Nat} (hb : Bytes ys) (hk : k ≤ 7) : -36028797018963968 ≤ dec (ys.take k) ∧ dec (ys.take k) ≤ 36028797018963967 := by
  have hb' : Bytes (ys.take k) := fun x hx => hb x (List.mem_of_mem_take hx)
  cases hl : (ys.take k).length with
  | zero => rw [List.eq_nil_of_length_eq_zero hl]; exact ⟨by show (-36028797018963968 : Int) ≤ 0; decide, by show (0 : Int) ≤ 36028797018963967; decide⟩
  | succ j =>
    have := dec_range j _ hl hb'
    have hj : j ≤ 6 := by rw [List.length_take] at hl; omega
    have hk : j = 0 ∨ j = 1 ∨ j = 2 ∨ j = 3 ∨ j = 4 ∨ j = 5 ∨ j = 6 := by omega
    rcases hk with rfl | rfl | rfl | rfl | rfl | rfl | rfl <;> simp at this <;> omega

theorem s8_wrap {x : Int} (h : 0 ≤ x ∧ x ≤ 255) : wrap64 (IntKind.i8.wrap x) = s8 x := by
  have e : IntKind.i8.wrap x = s8 x := by
    unfold s8
    simp [IntKind.wrap, IntKind.bits, IntKind.signed]
    split <;> split <;> omega
  rw [e]
  unfold wrap64 s8
  split <;> omega

set_option maxHeartbeats 400000 in
theorem number_few (A : Option Addr) (n c : Nat) (xs : List Int) (w : World) (hb : Bys w A n xs) (hc : n ≤ c) (hm : c ≤ maxLen) (h8 : n ≤ 8) :
    Calls Try.prog 31 #[.slice A n c] w fun e w' => e = .returned (.int .i64 (dec xs)) ∧ w = w' := by
  unfold maxLen at hm
  have hfit := bys_fits hb
  have hlen := hb.len
  have hcell := hb.2.2
  go_enter Try.func31, Try.ntmps31
  go_wp2
  have HL := Lib.hid hlen
  clear hlen
  go_loop [3, 12] (fun x y => ∃ k : Nat, y = .int .i64 k ∧ k ≤ n ∧ x = .int .i64 (dec (xs.take k))) (fun _ y => 9 - (intOf y).toNat)
  case atStart => exact ⟨0, rfl, Nat.zero_le _, rfl⟩
  case round =>
    obtain ⟨k, rfl, hk, rfl⟩ := hrel
    by_cases hlt : k < n
    · obtain ⟨b, off, hA, _, hcl⟩ := hcell (by omega)
      subst hA
      have hc1 := hcl k hlt
      obtain ⟨x, hx⟩ : ∃ x, xs.getD k 0 = x := ⟨_, rfl⟩
      have hxb := hb.fit.getD k
      rw [hx] at hc1 hxb
      by_cases h0 : k = 0
      · subst h0
        have h1 := dec_take_one (ys := xs) (by rw [HL.out]; exact hlt)
        rw [hx] at h1
        have H1 := Lib.hid h1
        rw [Nat.add_zero] at hc1
        clear h1 hx hcl hcell
        go_wp2
        go_round
        case rel => exact ⟨1, by go_num, by omega, by rw [H1.out, s8_wrap hxb]⟩
        case measure => simp [intOf]
      · have h1 := dec_take_succ (ys := xs) (k := k) (by rw [HL.out]; exact hlt) (by omega)
        have h2 := dec_room (ys := xs) (k := k) hfit (by omega)
        rw [hx] at h1
        have h3 := or_i64 8 (by decide) (dec (xs.take k) * 256) x (by unfold I64; omega) (by simp) (by omega) (by omega)
        have H1 := Lib.hid h1
        clear h1 hx hcl hcell
        go_wp2
        go_round
        case rel => exact ⟨k + 1, by go_num, by omega, by rw [H1.out]⟩
        case measure => simp [intOf]; omega
    · have : dec (xs.take k) = dec xs := by rw [List.take_of_length_le (by rw [HL.out]; omega)]
      rw [this]
      clear this
      go_wp2
      go_ret
      exact ⟨rfl, rfl⟩
set_option maxHeartbeats 400000 in
theorem number_many (A : Option Addr) (n c : Nat) (xs : List Int) (w : World) (hb : Bys w A n xs) (hc : n ≤ c) (hm : c ≤ maxLen) (h8 : 8 < n) :
    Calls Try.prog 31 #[.slice A n c] w fun e w' => e = .returned (.int .i64 (dec (xs.take 8))) ∧ w = w' := by
  unfold maxLen at hm
  replace hb := hb.upto (k := 8) (by omega)
  obtain ⟨ys, hys⟩ : ∃ ys, xs.take 8 = ys := ⟨_, rfl⟩
  rw [hys] at hb ⊢
  clear hys
  have hfit := bys_fits hb
  have hlen := hb.len
  have hcell := hb.2.2
  have hmax : max (8 : Int) 0 = 8 := by decide
  go_enter Try.func31, Try.ntmps31
  go_wp2
  have HL := Lib.hid hlen
  clear hlen
  go_loop [3, 12] (fun x y => ∃ k : Nat, y = .int .i64 k ∧ k ≤ 8 ∧ x = .int .i64 (dec (ys.take k))) (fun _ y => 9 - (intOf y).toNat)
  case atStart => exact ⟨0, rfl, Nat.zero_le _, rfl⟩
  case round =>
    obtain ⟨k, rfl, hk, rfl⟩ := hrel
    by_cases hlt : k < 8
    · obtain ⟨b, off, hA, _, hcl⟩ := hcell (by omega)
      subst hA
      have hc1 := hcl k hlt
      obtain ⟨x, hx⟩ : ∃ x, ys.getD k 0 = x := ⟨_, rfl⟩
      have hxb := hb.fit.getD k
      rw [hx] at hc1 hxb
      by_cases h0 : k = 0
      · subst h0
        have h1 := dec_take_one (ys := ys) (by rw [HL.out]; exact hlt)
        rw [hx] at h1
        have H1 := Lib.hid h1
        rw [Nat.add_zero] at hc1
        clear h1 hx hcl hcell
        go_wp2
        go_round
        case rel => exact ⟨1, by go_num, by omega, by rw [H1.out, s8_wrap hxb]⟩
        case measure => simp [intOf]
      · have h1 := dec_take_succ (ys := ys) (k := k) (by rw [HL.out]; exact hlt) (by omega)
        have h2 := dec_room (ys := ys) (k := k) hfit (by omega)
        rw [hx] at h1
        have h3 := or_i64 8 (by decide) (dec (ys.take k) * 256) x (by unfold I64; omega) (by simp) (by omega) (by omega)
        have H1 := Lib.hid h1
        clear h1 hx hcl hcell
        go_wp2
        go_round
        case rel => exact ⟨k + 1, by go_num, by omega, by rw [H1.out]⟩
        case measure => simp [intOf]; omega
    · have : dec (ys.take k) = dec ys := by rw [List.take_of_length_le (by rw [HL.out]; omega)]
      rw [this]
      clear this
      go_wp2
      go_ret
      exact ⟨rfl, rfl⟩

theorem number_any (A : Option Addr) (n c : Nat) (xs : List Int) (w : World) (hb : Bys w A n xs) (hc : n ≤ c) (hm : c ≤ maxLen) :
    Calls Try.prog 31 #[.slice A n c] w fun e w' => e = .returned (.int .i64 (dec (xs.take 8))) ∧ w = w' := by
  by_cases h : n ≤ 8
  · have := number_few A n c xs w hb hc hm h
    rw [List.take_of_length_le (by rw [hb.len]; exact h)]
    exact this
  · exact number_many A n c xs w hb hc hm (by omega)
end Go.Proofs.Ytcjjhjflijhijaa.intc
