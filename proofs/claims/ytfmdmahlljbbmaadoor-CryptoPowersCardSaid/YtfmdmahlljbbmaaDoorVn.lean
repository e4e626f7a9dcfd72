/- A number's bytes, and bytes' number: the program's. -/
import Derived.Test.YtfmdmahlljbbmaaDoorVa
import Derived.Test.YtfmdmahlljbbmaaDoorTc
import Derived.Deep.LoopGhost
namespace Go.Proofs.YtfmdmahlljbbmaaDoor.vtc
open Go.RowKit Go.Proofs.YtfmdmahlljbbmaaDoor.tlvc Go.Proofs.YtfmdmahlljbbmaaDoor.tmc
set_option linter.unusedVariables false
set_option maxRecDepth 100000 in
set_option maxHeartbeats 4000000 in
theorem bytes_yes (n : Int) (w : World) (h : 0 ≤ n ∧ n < 281474976710656) : Calls Tryd.prog 26 #[.int .i64 n] w fun e w' => e = .returned (.slice (some ⟨w.heap.size, 0, none⟩) 8 8) ∧ w' = w.alloc (.cells (vals (hbF n)).toArray 5) := by
  have hu : IntKind.u64.wrap n = n := by simp [IntKind.wrap, IntKind.signed, IntKind.bits]; omega
  go_enter Tryd.func26, Tryd.ntmps26
  go_wp2_with fail
  go_ret
  refine ⟨rfl, ?_⟩
  have e1 : n / 1099511627776 % 256 = n / 1099511627776 := by omega
  rw [hbF_yes h, e1]
  rfl
set_option maxRecDepth 100000 in
set_option maxHeartbeats 4000000 in
theorem bytes_no (n : Int) (w : World) (hi : -9223372036854775808 ≤ n ∧ n ≤ 9223372036854775807) (h : ¬ (0 ≤ n ∧ n < 281474976710656)) : Calls Tryd.prog 26 #[.int .i64 n] w fun e w' => e = .returned (.slice none 0 0) ∧ w' = w := by
  obtain ⟨u, hu, hne⟩ : ∃ u, IntKind.u64.wrap n = u ∧ (u / 281474976710656 != 0) = true := by
    refine ⟨_, rfl, ?_⟩
    have e : IntKind.u64.wrap n = if n < 0 then n + 18446744073709551616 else n := by
      simp [IntKind.wrap, IntKind.signed, IntKind.bits]
      split <;> omega
    rw [e, bne_iff_ne]
    split <;> omega
  go_enter Tryd.func26, Tryd.ntmps26
  go_wp2
  go_ret
  exact ⟨rfl, rfl⟩
/-- 'x | y' where y lies below 2^i and x is a multiple of 2^i, x of any sign. -/
theorem or_i64 (i : Nat) (hi : i ≤ 63) (x y : Int) (hx : I64 x) (hm : x % 2 ^ i = 0) (hy0 : 0 ≤ y) (hy : y < 2 ^ i) : bits .or .i64 x y = x + y := by
  unfold I64 at hx
  obtain ⟨b, rfl⟩ := Int.eq_ofNat_of_zero_le hy0
  have hb' : b < 2 ^ i := by exact_mod_cast hy
  have h63 : (2 : Nat) ^ i ≤ 2 ^ 63 := Nat.pow_le_pow_right (by decide) hi
  have hb : b < 18446744073709551616 := by omega
  obtain ⟨a, ha⟩ : ∃ a : Nat, x % 18446744073709551616 = a := Int.eq_ofNat_of_zero_le (by omega)
  have ha2 : a < 18446744073709551616 := by omega
  have hdv : (18446744073709551616 : Int) % 2 ^ i = 0 := by
    obtain ⟨k, hk⟩ : ∃ k, 64 = i + k := ⟨64 - i, by omega⟩
    have e : (18446744073709551616 : Int) = 2 ^ i * 2 ^ k := by rw [← Int.pow_add, ← hk]; rfl
    rw [e]; exact Int.mul_emod_right _ _
  have hd : a % 2 ^ i = 0 := by
    have h1 : ((a : Int)) % 2 ^ i = 0 := by
      rw [← ha, Int.emod_def x, Int.sub_emod, hm, Int.mul_emod, hdv]; simp
    exact_mod_cast h1
  have h1 : (BitVec.ofInt 64 x).toNat = a := by
    rw [BitVec.toNat_ofInt]
    show (x % 18446744073709551616).toNat = a
    rw [ha]; rfl
  have h2 : (BitVec.ofInt 64 (b : Int)).toNat = b := by
    rw [BitVec.ofInt_natCast, BitVec.toNat_ofNat]; exact Nat.mod_eq_of_lt (by omega)
  have hq : a = 2 ^ i * (a / 2 ^ i) := by have := Nat.div_add_mod a (2 ^ i); omega
  have hor : a ||| b = a + b := by
    rw [hq, ← Nat.two_pow_add_eq_or_of_lt hb' (a / 2 ^ i)]
  have hlt : a ||| b < 2 ^ 64 := Nat.or_lt_two_pow (by omega) (by omega)
  show IntKind.i64.wrap ((BitVec.ofInt 64 x ||| BitVec.ofInt 64 (b : Int)).toNat : Int) = _
  rw [BitVec.toNat_or, h1, h2, IntKind.wrap_i64]
  rw [hor] at hlt ⊢
  rw [show (2 : Nat) ^ 64 = 18446744073709551616 from rfl] at hlt
  have hup : x + 2 ^ i ≤ 9223372036854775808 := by
    obtain ⟨k, hk⟩ : ∃ k, 63 = i + k := ⟨63 - i, by omega⟩
    have e : (9223372036854775808 : Int) = 2 ^ i * 2 ^ k := by rw [← Int.pow_add, ← hk]; rfl
    have ex : x = 2 ^ i * (x / 2 ^ i) := by have := Int.mul_ediv_add_emod x (2 ^ i); omega
    have hp : (0 : Int) < 2 ^ i := Int.pow_pos (by decide)
    have hlt : x / 2 ^ i < 2 ^ k := by
      refine Int.lt_of_mul_lt_mul_left (a := 2 ^ i) ?_ (Int.le_of_lt hp)
      rw [← e, ← ex]; omega
    have := Int.mul_le_mul_of_nonneg_left (show x / 2 ^ i + 1 ≤ 2 ^ k by omega) (Int.le_of_lt hp)
    rw [Int.mul_add, ← ex, ← e] at this
    omega
  omega
def accF (b : List Int) : Nat → Int
  | 0 => 0
  | i + 1 => accF b i * 256 + b.getD (2 + i) 0
theorem accF_bd {b : List Int} (hf : Fit b) : ∀ i, 0 ≤ accF b i ∧ accF b i < 256 ^ i
  | 0 => by unfold accF; omega
  | i + 1 => by
    have := accF_bd hf i
    have h := hf.getD (2 + i)
    unfold accF
    rw [Int.pow_succ]
    omega
theorem pow_le6 {i : Nat} (h : i ≤ 5) : (256 : Int) ^ i ≤ 1099511627776 := by
  match i, h with
  | 0, _ => decide
  | 1, _ => decide
  | 2, _ => decide
  | 3, _ => decide
  | 4, _ => decide
  | 5, _ => decide
theorem numF_yes {b : List Int} (h : b.length = 8 ∧ b.getD 0 0 = 193 ∧ b.getD 1 0 = 94) : numF b = some (accF b 6) := by
  unfold numF
  rw [if_pos h]
  congr 1
  simp only [accF, Nat.reduceAdd]
  omega
theorem numF_no {b : List Int} (h : ¬ (b.length = 8 ∧ b.getD 0 0 = 193 ∧ b.getD 1 0 = 94)) : numF b = none := if_neg h
def NumPost (w : World) (r : Option Int) (e : Ending) (w' : World) : Prop := e = .returned (.tuple #[.int .i64 (r.getD (-1)), .bool r.isSome]) ∧ w' = w
set_option maxRecDepth 100000 in
set_option maxHeartbeats 4000000 in
theorem number_yes (b off c : Nat) (xs : List Int) (w : World) (hb : Bys w (some ⟨b, off, none⟩) 8 xs) (hc : 8 ≤ c) (hm : c ≤ 9223372036854775807) (h0 : xs.getD 0 0 = 193) (h1 : xs.getD 1 0 = 94) :
    Calls Tryd.prog 24 #[.slice (some ⟨b, off, none⟩) 8 c] w (NumPost w (numF xs)) := by
  obtain ⟨b', off', e, _, hcell⟩ := hb.2.2 (by omega)
  cases e
  have hfit := hb.fit
  rw [numF_yes ⟨hb.len, h0, h1⟩]
  have c0 := hcell 0 (by omega)
  have c1 := hcell 1 (by omega)
  rw [h0, Nat.add_zero] at c0
  rw [h1] at c1
  have HC := Lib.hid hcell
  have HF := Lib.hid hfit
  obtain ⟨R, hR⟩ : ∃ x, accF xs 6 = x := ⟨_, rfl⟩
  rw [hR]
  have HR := Lib.hid hR
  clear hcell hfit hb hR
  go_enter Tryd.func24, Tryd.ntmps24
  go_wp2_with fail
  go_loopg [4, 25] 8 (fun gk s4 s25 wx => ∃ (i : Nat), s4 = .int .i64 (accF xs i) ∧ s25 = .int .i64 i ∧ i ≤ 6 ∧ 7 - i ≤ gk ∧ wx = w)
  case atStart => exact ⟨0, rfl, rfl, by omega, by omega, rfl⟩
  case round =>
    obtain ⟨i, rfl, rfl, hi, hgk, rfl⟩ := hrel
    by_cases hlt : i < 6
    · have hltz : (i : Int) < 6 := by omega
      obtain ⟨gk', rfl⟩ : ∃ g', gk = g' + 1 := ⟨gk - 1, by omega⟩
      have e1 : wr.cell? ⟨b, off + 2 + i, none⟩ = some (.int .u8 (xs.getD (2 + i) 0)) := by rw [Nat.add_assoc]; exact HC.out (2 + i) (by omega)
      have hx := HF.out.getD (2 + i)
      have hbd := accF_bd HF.out i
      have hp := pow_le6 (show i ≤ 5 by omega)
      have hs : accF xs (i + 1) = accF xs i * 256 + xs.getD (2 + i) 0 := rfl
      obtain ⟨x, hxe⟩ : ∃ x, xs.getD (2 + i) 0 = x := ⟨_, rfl⟩
      obtain ⟨a, hae⟩ : ∃ x, accF xs i = x := ⟨_, rfl⟩
      rw [hxe] at e1 hx hs
      rw [hae] at hbd hs ⊢
      have hw := IntWalk.i64_in (a * 256) (by omega)
      have hor := or_i64 8 (by decide) (a * 256) x (by unfold I64; omega) (by omega) (by omega) (by omega)
      have HS := Lib.hid hs
      have HG := Lib.hid hgk
      clear hs hxe hae hbd hp hgk
      go_wp2
      go_roundg gk'
      case measure => omega
      case rel => exact ⟨i + 1, by rw [HS.out], by go_num, by omega, by have := HG.out; omega, rfl⟩
    · have hltz : ¬ (i : Int) < 6 := by omega
      obtain rfl : i = 6 := by omega
      have hR := HR.out
      rw [hR]
      go_wp2
      go_ret2
      exact ⟨rfl, rfl⟩
set_option maxRecDepth 100000 in
set_option maxHeartbeats 4000000 in
theorem number_any (A : Option Addr) (n c : Nat) (xs : List Int) (w : World) (hb : Bys w A n xs) (hc : n ≤ c) (hm : c ≤ maxLen) :
    Calls Tryd.prog 24 #[.slice A n c] w (NumPost w (numF xs)) := by
  have hm9 : c ≤ 9223372036854775807 := by unfold maxLen at hm; omega
  by_cases h8 : n = 8
  · subst h8
    obtain ⟨b, off, rfl, _, hcell⟩ := hb.2.2 (by omega)
    by_cases h0 : xs.getD 0 0 = 193
    · by_cases h1 : xs.getD 1 0 = 94
      · exact number_yes b off c xs w hb hc hm9 h0 h1
      · rw [numF_no fun h => h1 h.2.2]
        have c0 := hcell 0 (by omega)
        have c1 := hcell 1 (by omega)
        rw [h0, Nat.add_zero] at c0
        obtain ⟨x, hx⟩ : ∃ x, xs.getD 1 0 = x := ⟨_, rfl⟩
        rw [hx] at c1 h1
        clear hcell hb h0 hx
        go_enter Tryd.func24, Tryd.ntmps24
        go_wp2
        go_ret2
        exact ⟨rfl, rfl⟩
    · rw [numF_no fun h => h0 h.2.1]
      have c0 := hcell 0 (by omega)
      rw [Nat.add_zero] at c0
      obtain ⟨x, hx⟩ : ∃ x, xs.getD 0 0 = x := ⟨_, rfl⟩
      rw [hx] at c0 h0
      clear hcell hb hx
      go_enter Tryd.func24, Tryd.ntmps24
      go_wp2
      go_ret2
      exact ⟨rfl, rfl⟩
  · rw [numF_no fun h => h8 (hb.len.symm.trans h.1)]
    have h8z : ¬ (n : Int) = 8 := by omega
    clear hb
    go_enter Tryd.func24, Tryd.ntmps24
    go_wp2
    go_ret2
    exact ⟨rfl, rfl⟩
end Go.Proofs.YtfmdmahlljbbmaaDoor.vtc
