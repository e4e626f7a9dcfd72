/- The document's Bits. -/
import Derived.Test.YtcjjhjflijhijaaIntX
import Derived.Deep.RegionWith
namespace Go.Proofs.Ytcjjhjflijhijaa.intc
open Go.RowKit Go.Proofs.Ytcjjhjflijhijaa.tlvc Go.Proofs.Ytcjjhjflijhijaa.intm
set_option linter.unusedVariables false

/-- The mask when i bits are read. -/
def maskR (xs : List Int) (i : Nat) : Int := rv (xs.getD 1 0) % 2 ^ (min i 8) + 256 * (rv (xs.getD 2 0) % 2 ^ (i - 8))
theorem maskR_zero (xs : List Int) : maskR xs 0 = 0 := by
  unfold maskR
  have e1 : min 0 8 = 0 := rfl
  have e2 : 0 - 8 = 0 := rfl
  rw [e1, e2]; omega
theorem maskR_end {xs : List Int} {i : Nat} (h1 : 1 ≤ xs.length) (h3 : xs.length ≤ 3) (hi : i = 8 * (xs.length - 1)) : maskR xs i = maskF (xs.take 3) := by
  subst hi
  rw [List.take_of_length_le h3]
  match xs, h1, h3 with
  | [a], _, _ => rfl
  | [a, b], _, _ =>
    have := rv_bd b
    show rv b % 2 ^ 8 + 256 * (rv 0 % 2 ^ 0) = rv b
    omega
  | [a, b, c], _, _ =>
    have := rv_bd b
    have := rv_bd c
    show rv b % 2 ^ 8 + 256 * (rv c % 2 ^ 8) = rv b + 256 * rv c
    omega
theorem mod_next {x : Int} {j : Nat} (h : j < 8) : x % 2 ^ (j + 1) = x % 2 ^ j + 2 ^ j * (x / 2 ^ j % 2) := by
  have : j = 0 ∨ j = 1 ∨ j = 2 ∨ j = 3 ∨ j = 4 ∨ j = 5 ∨ j = 6 ∨ j = 7 := by omega
  rcases this with rfl | rfl | rfl | rfl | rfl | rfl | rfl | rfl <;> omega
theorem pow_high (j : Nat) : (2 : Int) ^ (8 + j) = 256 * 2 ^ j := by rw [Int.pow_add]; rfl
theorem mod_lt {x : Int} (j : Nat) : 0 ≤ x % 2 ^ j ∧ x % 2 ^ j < 2 ^ j := by
  have hp : (0 : Int) < 2 ^ j := Int.pow_pos (by decide)
  exact ⟨Int.emod_nonneg _ (by omega), Int.emod_lt_of_pos _ hp⟩
theorem maskR_bit {xs : List Int} (hf : Fit xs) {i : Nat} (hi : i < 16) :
    (xs.getD (1 + i / 8) 0 / 2 ^ (7 - i % 8) % 2 = 0 → maskR xs (i + 1) = maskR xs i) ∧ (xs.getD (1 + i / 8) 0 / 2 ^ (7 - i % 8) % 2 = 1 → maskR xs (i + 1) = maskR xs i + 2 ^ i) ∧ 0 ≤ maskR xs i ∧ maskR xs i < 2 ^ i := by
  by_cases hi8 : i < 8
  · have e1 : i / 8 = 0 := by omega
    have e2 : i % 8 = i := by omega
    have e3 : min (i + 1) 8 = i + 1 := by omega
    have e4 : min i 8 = i := by omega
    have e5 : i + 1 - 8 = 0 := by omega
    have e6 : i - 8 = 0 := by omega
    have hb := hf.getD 1
    have hbit := rv_bit (b := xs.getD 1 0) hb.1 hb.2 hi8
    have hn := mod_next (x := rv (xs.getD 1 0)) hi8
    have hl := mod_lt (x := rv (xs.getD 1 0)) i
    rw [e1, e2, Nat.add_zero, hbit]
    unfold maskR
    rw [e3, e4, e5, e6, hn]
    have e7 : rv (xs.getD 2 0) % 2 ^ 0 = 0 := by omega
    rw [e7]
    refine ⟨fun h => by rw [h]; omega, fun h => by rw [h]; omega, by omega, by omega⟩
  · obtain ⟨j, rfl⟩ : ∃ j, i = 8 + j := ⟨i - 8, by omega⟩
    have e1 : (8 + j) / 8 = 1 := by omega
    have e2 : (8 + j) % 8 = j := by omega
    have e3 : min (8 + j + 1) 8 = 8 := by omega
    have e4 : min (8 + j) 8 = 8 := by omega
    have e5 : 8 + j + 1 - 8 = j + 1 := by omega
    have e6 : 8 + j - 8 = j := by omega
    have hb := hf.getD 2
    have hbit := rv_bit (b := xs.getD 2 0) hb.1 hb.2 (show j < 8 by omega)
    have hn := mod_next (x := rv (xs.getD 2 0)) (show j < 8 by omega)
    have hl := mod_lt (x := rv (xs.getD 2 0)) j
    have hr := rv_bd (xs.getD 1 0)
    rw [e1, e2, show 1 + 1 = 2 from rfl, hbit]
    unfold maskR
    rw [e3, e4, e5, e6, hn, pow_high]
    have e7 : rv (xs.getD 1 0) % 2 ^ 8 = rv (xs.getD 1 0) := by omega
    rw [e7]
    refine ⟨fun h => by rw [h]; omega, fun h => by rw [h]; omega, by omega, by omega⟩
theorem or16_bit {y : Int} {i : Nat} (hi : i < 16) (h0 : 0 ≤ y) (h : y < 2 ^ i) : bits .or .u16 y (IntKind.u16.wrap (2 ^ i)) = y + 2 ^ i := by
  rw [IntKind.wrap_u16]
  have hp : (2 : Int) ^ i < 65536 := by
    have : i = 0 ∨ i = 1 ∨ i = 2 ∨ i = 3 ∨ i = 4 ∨ i = 5 ∨ i = 6 ∨ i = 7 ∨ i = 8 ∨ i = 9 ∨ i = 10 ∨ i = 11 ∨ i = 12 ∨ i = 13 ∨ i = 14 ∨ i = 15 := by omega
    rcases this with rfl | rfl | rfl | rfl | rfl | rfl | rfl | rfl | rfl | rfl | rfl | rfl | rfl | rfl | rfl | rfl <;> decide
  have hp0 : (0 : Int) < 2 ^ i := Int.pow_pos (by decide)
  rw [Int.emod_eq_of_lt (by omega) hp]
  exact bits_join_low .u16 16 (by decide) (fun n h₀ h₁ => by rw [IntKind.wrap_u16]; omega) i y (2 ^ i) h0 h (by omega) (by omega) (Int.emod_self) (by omega)
theorem and1_8 {y : Int} (h0 : 0 ≤ y) (h : y ≤ 255) : bits .and .u8 y 1 = y % 2 :=
  bits_mask .u8 8 (by decide) (fun n h₀ h₁ => by rw [IntKind.wrap_u8]; omega) 1 (by decide) y h0 (by omega)
theorem bit8 {m : Int} (hm : 0 ≤ m ∧ m ≤ 255) (i : Nat) : bits .and .u8 (m / 2 ^ i) 1 = m / 2 ^ i % 2 := by
  have hp : (0 : Int) < 2 ^ i := Int.pow_pos (by decide)
  exact and1_8 (Int.ediv_nonneg hm.1 (Int.le_of_lt hp)) (Int.le_trans (Int.ediv_le_self _ hm.1) hm.2)
theorem bitsF_len {xs : List Int} (h : xs.length = 0 ∨ 3 < xs.length) : bitsF xs = (0, 24) := by
  unfold bitsF
  rw [if_neg]
  intro e
  have h1 := congrArg List.length e
  have h2 := putM_length (maskF (xs.take 3))
  omega
theorem maskR_u16 {xs : List Int} {i : Nat} (hf : Fit xs) (h1 : 1 ≤ xs.length) (h3 : xs.length ≤ 3) (hi : i = 8 * (xs.length - 1)) : U16 (maskR xs i) := by
  rw [maskR_end h1 h3 hi]; exact maskF_u16 _
theorem bits_len_fit {i n : Nat} (h : i < 8 * (n - 1)) : 1 + i / 8 < n := by omega

set_option maxRecDepth 100000 in
set_option maxHeartbeats 1000000 in
theorem refBits_any (A : Option Addr) (n c : Nat) (xs : List Int) (w : World) (hb : Bys w A n xs) (hc : n ≤ c) (hm : c ≤ maxLen) :
    Calls Try.prog 27 #[.slice A n c] w (Told w (.int .u16 (bitsF xs).1) (bitsF xs).2) := by
  unfold maxLen at hm
  have hlen := hb.len
  by_cases h0 : n < 1
  · rw [bitsF_len (by omega)]
    clear hlen
    go_enter Try.func27, Try.ntmps27
    go_wp2
    go_ret2
    exact ⟨rfl, Below.refl _ _⟩
  by_cases h3 : 3 < n
  · rw [bitsF_len (by omega)]
    clear hlen
    go_enter Try.func27, Try.ntmps27
    go_wp2
    go_ret2
    exact ⟨rfl, Below.refl _ _⟩
  obtain ⟨b, off, rfl, _, hcl⟩ := hb.2.2 (by omega)
  have HL := Lib.hid hlen
  have HC := Lib.hid hcl
  have HF := Lib.hid hb.fit
  have hz := maskR_zero xs
  have HZ := Lib.hid hz
  obtain ⟨R, hR⟩ : ∃ R, bitsF xs = R := ⟨_, rfl⟩
  have HR := Lib.hid hR
  rw [hR]
  clear hlen hcl hz hR
  go_enter Try.func27, Try.ntmps27
  go_wp2
  go_loop [4, 5] (fun x y => ∃ i : Nat, y = .int .i64 i ∧ i ≤ 8 * (n - 1) ∧ x = .int .u16 (maskR xs i)) (fun _ y => 16 - (intOf y).toNat)
  case atStart => exact ⟨0, rfl, by omega, by rw [HZ.out]⟩
  case round =>
    obtain ⟨i, rfl, hi, rfl⟩ := hrel
    by_cases hlt : i < 8 * (n - 1)
    · have hst := maskR_bit HF.out (i := i) (by omega)
      have hcell := HC.out (1 + i / 8) (bits_len_fit hlt)
      have hxb := HF.out.getD (1 + i / 8)
      have hbit := bit8 hxb (7 - i % 8)
      have hr1 : i % 8 ≤ 7 := by omega
      have hiD : (i : Int) / 8 = ((i / 8 : Nat) : Int) := by omega
      have htm : (i : Int) % 8 = ((i % 8 : Nat) : Int) := by omega
      have hD1 := bits_len_fit hlt
      have hor := or16_bit (y := maskR xs i) (show i < 16 by omega) hst.2.2.1 hst.2.2.2
      obtain ⟨D, hD⟩ : ∃ D, i / 8 = D := ⟨_, rfl⟩
      obtain ⟨r, hr⟩ : ∃ r, i % 8 = r := ⟨_, rfl⟩
      rw [hD] at hcell hxb hbit hiD hst hD1
      rw [hr] at hbit hr1 htm hst
      obtain ⟨x, hx⟩ : ∃ x, xs.getD (1 + D) 0 = x := ⟨_, rfl⟩
      rw [hx] at hcell hxb hbit hst
      clear hD hr hx
      rcases (show x / 2 ^ (7 - r) % 2 = 0 ∨ x / 2 ^ (7 - r) % 2 = 1 by omega) with hz | ho
      · rw [hz] at hbit
        have HN := Lib.hid (hst.1 hz)
        clear hz hst hor
        go_wp2
        go_round
        case rel => exact ⟨i + 1, by go_num, by omega, by rw [HN.out]⟩
        case measure => simp [intOf]; omega
      · rw [ho] at hbit
        have HN := Lib.hid (hst.2.1 ho)
        clear ho hst
        go_wp2
        go_round
        case rel => exact ⟨i + 1, by go_num, by omega, by rw [HN.out]⟩
        case measure => simp [intOf]; omega
    · obtain rfl : i = 8 * (n - 1) := by omega
      have hend := maskR_end (xs := xs) (i := 8 * (n - 1)) (by rw [HL.out]; omega) (by rw [HL.out]; omega) (by rw [HL.out])
      have hmu := maskR_u16 HF.out (i := 8 * (n - 1)) (by rw [HL.out]; omega) (by rw [HL.out]; omega) (by rw [HL.out])
      obtain ⟨M, hM⟩ : ∃ M, maskR xs (8 * (n - 1)) = M := ⟨_, rfl⟩
      rw [hM] at hend hmu ⊢
      have HE := Lib.hid hend
      have hB0 : Bys w.drew (some ⟨b, off, none⟩) n xs := hb
      have hs0 := str_now hB0 c
      clear hM hend
      by_cases he : putM M = xs
      · have e : R = (M, 0) := by rw [← HR.out]; unfold bitsF; rw [← HE.out, if_pos he]
        have hsame : ((strOfNums (putM M)).toList == (strOfNums xs).toList) = true := (sameB_iff (putM_bytes M hmu) hb.fit).2 he
        subst e
        clear he
        go_wp2
        go_region_with (go_at_call 29; refine (refPutBits_any _ _ ?_).mono ?_; exact hmu; rintro e w1 ⟨A1, c1, rfl, hh, hb1⟩; have hsA := str_now hh.1 c1; have hsB := str_now (hB0.below hb1) c)
        all_goals (go_wp2; go_ret2; exact ⟨rfl, Below.trans (Below.refl _ _).drew hb1⟩)
      · have e : R = (0, 24) := by rw [← HR.out]; unfold bitsF; rw [← HE.out, if_neg he]
        have hne := sameB_no (putM_bytes M hmu) hb.fit he
        have hsame : ((strOfNums (putM M)).toList == (strOfNums xs).toList) = false := hne
        subst e
        clear he hne
        go_wp2
        go_region_with (go_at_call 29; refine (refPutBits_any _ _ ?_).mono ?_; exact hmu; rintro e w1 ⟨A1, c1, rfl, hh, hb1⟩; have hsA := str_now hh.1 c1; have hsB := str_now (hB0.below hb1) c)
        all_goals (go_wp2; go_ret2; exact ⟨rfl, Below.trans (Below.refl _ _).drew hb1⟩)
end Go.Proofs.Ytcjjhjflijhijaa.intc
