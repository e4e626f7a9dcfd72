/- Handles' bytes, mentions, and which numbers some bytes mention: plain. Nothing here names the program. A number's bytes, and bytes' number: the program's. A number's mention; the document's number of bytes, bytes and mention. -/
import Derived.Test.YtlhogjigdmpokaaGreatDoorTa
import Derived.Test.YtlhogjigdmpokaaGreatDoorTc
import Derived.Deep.LoopGhost
import Derived.Test.YtlhogjigdmpokaaGreatDoorVe
namespace Go.Proofs.YtlhogjigdmpokaaGreatDoor.vtc
open Go.RowKit Go.Proofs.YtlhogjigdmpokaaGreatDoor.tlvc
set_option linter.unusedVariables false
/-- A number's bytes; nothing, if it is none. -/
def hbF (n : Int) : List Int := if 0 ≤ n ∧ n < 281474976710656 then [193, 94, n / 1099511627776 % 256, n / 4294967296 % 256, n / 16777216 % 256, n / 65536 % 256, n / 256 % 256, n % 256] else []
/-- The number whose bytes these are. -/
def numF (b : List Int) : Option Int := if b.length = 8 ∧ b.getD 0 0 = 193 ∧ b.getD 1 0 = 94 then some (((((b.getD 2 0 * 256 + b.getD 3 0) * 256 + b.getD 4 0) * 256 + b.getD 5 0) * 256 + b.getD 6 0) * 256 + b.getD 7 0) else none
def menF (n : Int) : List Int := if 0 ≤ n ∧ n < 281474976710656 then 4 :: 8 :: hbF n else []
theorem hbF_yes {n : Int} (h : 0 ≤ n ∧ n < 281474976710656) : hbF n = [193, 94, n / 1099511627776 % 256, n / 4294967296 % 256, n / 16777216 % 256, n / 65536 % 256, n / 256 % 256, n % 256] := if_pos h
theorem hbF_len {n : Int} (h : 0 ≤ n ∧ n < 281474976710656) : (hbF n).length = 8 := by rw [hbF_yes h]; rfl
theorem menF_len {n : Int} (h : 0 ≤ n ∧ n < 281474976710656) : (menF n).length = 10 := by unfold menF; rw [if_pos h, List.length_cons, List.length_cons, hbF_len h]
theorem hbF_fit (n : Int) : Fit (hbF n) := by
  unfold hbF
  split
  · intro x hx
    simp only [List.mem_cons, List.not_mem_nil, or_false] at hx
    rcases hx with rfl | rfl | rfl | rfl | rfl | rfl | rfl | rfl <;> omega
  · intro x hx; simp at hx
theorem num_hb {n : Int} (h : 0 ≤ n ∧ n < 281474976710656) : numF (hbF n) = some n := by
  rw [hbF_yes h]
  unfold numF
  rw [if_pos ⟨rfl, rfl, rfl⟩]
  simp only [List.getD_cons_succ, List.getD_cons_zero]
  congr 1
  omega
theorem eight {b : List Int} (h : b.length = 8) : ∃ a0 a1 a2 a3 a4 a5 a6 a7, b = [a0, a1, a2, a3, a4, a5, a6, a7] := by
  match b, h with
  | [a0, a1, a2, a3, a4, a5, a6, a7], _ => exact ⟨a0, a1, a2, a3, a4, a5, a6, a7, rfl⟩
theorem num_some {b : List Int} {n : Int} (hf : Fit b) (h : numF b = some n) : (0 ≤ n ∧ n < 281474976710656) ∧ hbF n = b := by
  unfold numF at h
  split at h
  · rename_i hc
    obtain ⟨h8, h0, h1⟩ := hc
    obtain ⟨a0, a1, a2, a3, a4, a5, a6, a7, rfl⟩ := eight h8
    simp only [List.getD_cons_succ, List.getD_cons_zero] at h h0 h1
    have e := Option.some.inj h
    have f2 := hf a2 (by simp)
    have f3 := hf a3 (by simp)
    have f4 := hf a4 (by simp)
    have f5 := hf a5 (by simp)
    have f6 := hf a6 (by simp)
    have f7 := hf a7 (by simp)
    have hr : 0 ≤ n ∧ n < 281474976710656 := by omega
    refine ⟨hr, ?_⟩
    rw [hbF_yes hr, h0, h1]
    have g7 : n % 256 = a7 := by omega
    have g6 : n / 256 % 256 = a6 := by omega
    have g5 : n / 65536 % 256 = a5 := by omega
    have g4 : n / 16777216 % 256 = a4 := by omega
    have g3 : n / 4294967296 % 256 = a3 := by omega
    have g2 : n / 1099511627776 % 256 = a2 := by omega
    rw [g2, g3, g4, g5, g6, g7]
  · cases h
theorem hb_inj {n k : Int} (h : 0 ≤ n ∧ n < 281474976710656) (h' : 0 ≤ k ∧ k < 281474976710656) (e : hbF n = hbF k) : n = k := by
  have h1 := num_hb h
  rw [e, num_hb h'] at h1
  exact (Option.some.inj h1).symm
/-- The number that these bytes mention at this place. -/
def atF (b : List Int) (i : Nat) : Option Int := if i + 10 ≤ b.length ∧ b.getD i 0 = 4 ∧ b.getD (i + 1) 0 = 8 then numF ((b.drop (i + 2)).take 8) else none
/-- b mentions n. -/
def Says (b : List Int) (n : Int) : Prop := ∃ i, atF b i = some n
theorem says_iff {b : List Int} (hf : Fit b) (n : Int) : Says b n ↔ (0 ≤ n ∧ n < 281474976710656) ∧ ∃ p q, b = p ++ menF n ++ q := by
  constructor
  · rintro ⟨i, h⟩
    unfold atF at h
    split at h
    · rename_i hc
      obtain ⟨hl, h4, h8⟩ := hc
      obtain ⟨hr, hb⟩ := num_some (fun x hx => hf x (List.mem_of_mem_drop (List.mem_of_mem_take hx))) h
      refine ⟨hr, b.take i, b.drop (i + 10), ?_⟩
      have e1 : b.drop i = 4 :: 8 :: b.drop (i + 2) := by
        rw [List.drop_eq_getElem_cons (show i < b.length by omega), List.drop_eq_getElem_cons (show i + 1 < b.length by omega)]
        rw [List.getD_eq_getElem?_getD, List.getElem?_eq_getElem (by omega), Option.getD_some] at h4 h8
        rw [h4, h8]
      have e2 : b.drop (i + 2) = hbF n ++ b.drop (i + 10) := by
        rw [hb]
        conv => lhs; rw [← List.take_append_drop 8 (b.drop (i + 2))]
        rw [List.drop_drop]
      unfold menF
      rw [if_pos hr]
      conv => lhs; rw [← List.take_append_drop i b, e1, e2]
      simp
    · cases h
  · rintro ⟨hr, p, q, rfl⟩
    refine ⟨p.length, ?_⟩
    have hm : menF n = 4 :: 8 :: hbF n := if_pos hr
    have hd : ∀ k, (p ++ menF n ++ q).drop (p.length + k) = (menF n ++ q).drop k := fun k => by rw [List.append_assoc, List.drop_length_add_append]
    unfold atF
    rw [if_pos]
    · rw [hd 2, hm]
      show numF ((hbF n ++ q).take 8) = some n
      rw [List.take_append_of_le_length (by rw [hbF_len hr]; omega), List.take_of_length_le (by rw [hbF_len hr]; omega), num_hb hr]
    · refine ⟨by rw [List.length_append, List.length_append, menF_len hr]; omega, ?_, ?_⟩
      · rw [hm, List.getD_eq_getElem?_getD, List.append_assoc, List.getElem?_append_right (Nat.le_refl _), Nat.sub_self]; rfl
      · rw [hm, List.getD_eq_getElem?_getD, List.append_assoc, List.getElem?_append_right (Nat.le_succ _), show p.length + 1 - p.length = 1 by omega]; rfl
/-- Rising numbers, each once. -/
def Rise (l : List Int) : Prop := l.Pairwise (· < ·)
theorem rise_eq : ∀ {l k : List Int}, Rise l → Rise k → (∀ n, n ∈ l ↔ n ∈ k) → l = k
  | [], [], _, _, _ => rfl
  | [], b :: k, _, _, h => by have := (h b).2 (by simp); simp at this
  | a :: l, [], _, _, h => by have := (h a).1 (by simp); simp at this
  | a :: l, b :: k, hl, hk, h => by
    obtain ⟨l1, l2⟩ := List.pairwise_cons.1 hl
    obtain ⟨k1, k2⟩ := List.pairwise_cons.1 hk
    have hab : a = b := by
      rcases List.mem_cons.1 ((h a).1 (by simp)) with e | e
      · exact e
      · rcases List.mem_cons.1 ((h b).2 (by simp)) with e' | e'
        · exact e'.symm
        · have := k1 a e; have := l1 b e'; omega
    subst hab
    congr 1
    refine rise_eq l2 k2 fun n => ⟨fun hn => ?_, fun hn => ?_⟩
    · rcases List.mem_cons.1 ((h n).1 (List.mem_cons_of_mem _ hn)) with e | e
      · subst e; have := l1 n hn; omega
      · exact e
    · rcases List.mem_cons.1 ((h n).2 (List.mem_cons_of_mem _ hn)) with e | e
      · subst e; have := k1 n hn; omega
      · exact e
/-- Where a number stands among rising ones, counted from the end: the document's way. -/
def spotF (l : List Int) (n : Int) : Nat → Nat
  | 0 => 0
  | k + 1 => if n ≤ l.getD k 0 then spotF l n k else k + 1
theorem spotF_le (l : List Int) (n : Int) : ∀ k, spotF l n k ≤ k
  | 0 => Nat.le_refl _
  | k + 1 => by
    unfold spotF
    split
    · exact Nat.le_succ_of_le (spotF_le l n k)
    · exact Nat.le_refl _
theorem spotF_spec (l : List Int) (n : Int) : ∀ k, (∀ j, spotF l n k ≤ j → j < k → n ≤ l.getD j 0) ∧ (0 < spotF l n k → l.getD (spotF l n k - 1) 0 < n)
  | 0 => ⟨fun j h1 h2 => by omega, fun h => by unfold spotF at h; omega⟩
  | k + 1 => by
    obtain ⟨i1, i2⟩ := spotF_spec l n k
    unfold spotF
    split
    · rename_i h
      refine ⟨fun j h1 h2 => ?_, i2⟩
      rcases Nat.lt_or_ge j k with h3 | h3
      · exact i1 j h1 h3
      · obtain rfl : j = k := by omega
        exact h
    · rename_i h
      exact ⟨fun j h1 h2 => by omega, fun _ => by rw [Nat.add_sub_cancel]; omega⟩
/-- A number into rising ones. -/
def insF (l : List Int) (n : Int) : List Int := if spotF l n l.length < l.length ∧ l.getD (spotF l n l.length) 0 = n then l else l.take (spotF l n l.length) ++ n :: l.drop (spotF l n l.length)
theorem rise_at {l : List Int} (h : Rise l) {i j : Nat} (hij : i < j) (hj : j < l.length) : l.getD i 0 < l.getD j 0 := by
  have := List.pairwise_iff_getElem.1 h i j (by omega) hj hij
  rwa [List.getD_eq_getElem?_getD, List.getD_eq_getElem?_getD, List.getElem?_eq_getElem (by omega), List.getElem?_eq_getElem hj]
theorem insF_mem {l : List Int} (n m : Int) : m ∈ insF l n ↔ m = n ∨ m ∈ l := by
  unfold insF
  split
  · rename_i h
    constructor
    · exact fun hm => .inr hm
    · rintro (rfl | hm)
      · have hk : l.getD (spotF l m l.length) 0 ∈ l := by rw [List.getD_eq_getElem?_getD, List.getElem?_eq_getElem h.1]; exact List.getElem_mem h.1
        rw [h.2] at hk
        exact hk
      · exact hm
  · rw [List.mem_append, List.mem_cons]
    conv => rhs; rw [← List.take_append_drop (spotF l n l.length) l, List.mem_append]
    constructor
    · rintro (h | h | h)
      · exact .inr (.inl h)
      · exact .inl h
      · exact .inr (.inr h)
    · rintro (h | h | h)
      · exact .inr (.inl h)
      · exact .inl h
      · exact .inr (.inr h)
theorem insF_rise {l : List Int} (hl : Rise l) (n : Int) : Rise (insF l n) := by
  obtain ⟨s1, s2⟩ := spotF_spec l n l.length
  have hle := spotF_le l n l.length
  unfold insF
  obtain ⟨p, hp⟩ : ∃ y, spotF l n l.length = y := ⟨_, rfl⟩
  rw [hp] at s1 s2 hle ⊢
  split
  · exact hl
  · rename_i hne
    unfold Rise
    have ha : ∀ x ∈ l.take p, x < n := fun x hx => by
      obtain ⟨i, hi, rfl⟩ := List.getElem_of_mem hx
      rw [List.length_take] at hi
      rw [List.getElem_take]
      have h2 := s2 (by omega)
      have e : l[i] = l.getD i 0 := by rw [List.getD_eq_getElem?_getD, List.getElem?_eq_getElem (by omega)]; rfl
      rw [e]
      rcases Nat.lt_or_ge i (p - 1) with h | h
      · have := rise_at hl h (by omega); omega
      · obtain rfl : i = p - 1 := by omega
        exact h2
    have hb : ∀ x ∈ l.drop p, n < x := fun x hx => by
      obtain ⟨i, hi, rfl⟩ := List.getElem_of_mem hx
      rw [List.length_drop] at hi
      rw [List.getElem_drop]
      have e : l[p + i] = l.getD (p + i) 0 := by rw [List.getD_eq_getElem?_getD, List.getElem?_eq_getElem (by omega)]; rfl
      rw [e]
      have h0 := s1 p (Nat.le_refl _) (by omega)
      have hn0 : l.getD p 0 ≠ n := fun h => hne ⟨by omega, h⟩
      rcases Nat.eq_zero_or_pos i with h | h
      · subst h; rw [Nat.add_zero]; omega
      · have := rise_at hl (show p < p + i by omega) (by omega); omega
    rw [List.pairwise_append]
    refine ⟨List.Pairwise.sublist (List.take_sublist _ _) hl, List.pairwise_cons.2 ⟨hb, List.Pairwise.sublist (List.drop_sublist _ _) hl⟩, fun x hx y hy => ?_⟩
    rcases List.mem_cons.1 hy with rfl | hy
    · exact ha x hx
    · have := ha x hx; have := hb y hy; omega
/-- The numbers below a bound that b mentions at its first k places: the document's way. -/
def msF (b : List Int) (below : Int) : Nat → List Int
  | 0 => []
  | k + 1 => match atF b k with
    | some n => if n < below then insF (msF b below k) n else msF b below k
    | none => msF b below k
theorem msF_rise (b : List Int) (below : Int) : ∀ k, Rise (msF b below k)
  | 0 => List.Pairwise.nil
  | k + 1 => by
    unfold msF
    split
    · split
      · exact insF_rise (msF_rise b below k) _
      · exact msF_rise b below k
    · exact msF_rise b below k
theorem msF_mem (b : List Int) (below : Int) (m : Int) : ∀ k, m ∈ msF b below k ↔ m < below ∧ ∃ i, i < k ∧ atF b i = some m
  | 0 => by unfold msF; simp
  | k + 1 => by
    have ih := msF_mem b below m k
    have hs : (∃ i, i < k + 1 ∧ atF b i = some m) ↔ (∃ i, i < k ∧ atF b i = some m) ∨ atF b k = some m := by
      constructor
      · rintro ⟨i, hi, h⟩
        rcases Nat.lt_or_ge i k with h2 | h2
        · exact .inl ⟨i, h2, h⟩
        · obtain rfl : i = k := by omega
          exact .inr h
      · rintro (⟨i, hi, h⟩ | h)
        · exact ⟨i, by omega, h⟩
        · exact ⟨k, by omega, h⟩
    rw [hs]
    unfold msF
    split
    · rename_i n hn
      split
      · rename_i hb
        rw [insF_mem, ih]
        constructor
        · rintro (rfl | ⟨h1, h2⟩)
          · exact ⟨hb, .inr hn⟩
          · exact ⟨h1, .inl h2⟩
        · rintro ⟨h1, h2 | h2⟩
          · exact .inr ⟨h1, h2⟩
          · rw [hn] at h2; exact .inl (Option.some.inj h2).symm
      · rename_i hb
        rw [ih]
        constructor
        · rintro ⟨h1, h2⟩; exact ⟨h1, .inl h2⟩
        · rintro ⟨h1, h2 | h2⟩
          · exact ⟨h1, h2⟩
          · rw [hn] at h2; cases h2; omega
    · rename_i hn
      rw [ih]
      constructor
      · rintro ⟨h1, h2⟩; exact ⟨h1, .inl h2⟩
      · rintro ⟨h1, h2 | h2⟩
        · exact ⟨h1, h2⟩
        · rw [hn] at h2; cases h2
/-- All that b mentions below a bound. -/
def mentionsF (b : List Int) (below : Int) : List Int := msF b below (b.length - 9)
theorem mentions_mem (b : List Int) (below m : Int) : m ∈ mentionsF b below ↔ m < below ∧ Says b m := by
  unfold mentionsF
  rw [msF_mem]
  constructor
  · rintro ⟨h1, i, _, h⟩; exact ⟨h1, i, h⟩
  · rintro ⟨h1, i, h⟩
    refine ⟨h1, i, ?_, h⟩
    unfold atF at h
    split at h
    · omega
    · cases h
theorem mentions_rise (b : List Int) (below : Int) : Rise (mentionsF b below) := msF_rise b below _
/-- Whatever rises and has just these is it. -/
theorem mentions_is {b : List Int} {below : Int} {l : List Int} (hl : Rise l) (h : ∀ m, m ∈ l ↔ m < below ∧ Says b m) : l = mentionsF b below :=
  rise_eq hl (mentions_rise b below) fun m => (h m).trans (mentions_mem b below m).symm
end Go.Proofs.YtlhogjigdmpokaaGreatDoor.vtc
namespace Go.Proofs.YtlhogjigdmpokaaGreatDoor.vtc
open Go.RowKit Go.Proofs.YtlhogjigdmpokaaGreatDoor.tlvc Go.Proofs.YtlhogjigdmpokaaGreatDoor.tmc
set_option linter.unusedVariables false
set_option maxRecDepth 100000 in
set_option maxHeartbeats 4000000 in
theorem bytes_yes (n : Int) (w : World) (h : 0 ≤ n ∧ n < 281474976710656) : Calls Tryz.prog 42 #[.int .i64 n] w fun e w' => e = .returned (.slice (some ⟨w.heap.size, 0, none⟩) 8 8) ∧ w' = w.alloc (.cells (vals (hbF n)).toArray 5) := by
  have hu : IntKind.u64.wrap n = n := by simp [IntKind.wrap, IntKind.signed, IntKind.bits]; omega
  go_enter Tryz.func42, Tryz.ntmps42
  go_wp2_with fail
  go_ret
  refine ⟨rfl, ?_⟩
  have e1 : n / 1099511627776 % 256 = n / 1099511627776 := by omega
  rw [hbF_yes h, e1]
  rfl
set_option maxRecDepth 100000 in
set_option maxHeartbeats 4000000 in
theorem bytes_no (n : Int) (w : World) (hi : -9223372036854775808 ≤ n ∧ n ≤ 9223372036854775807) (h : ¬ (0 ≤ n ∧ n < 281474976710656)) : Calls Tryz.prog 42 #[.int .i64 n] w fun e w' => e = .returned (.slice none 0 0) ∧ w' = w := by
  obtain ⟨u, hu, hne⟩ : ∃ u, IntKind.u64.wrap n = u ∧ (u / 281474976710656 != 0) = true := by
    refine ⟨_, rfl, ?_⟩
    have e : IntKind.u64.wrap n = if n < 0 then n + 18446744073709551616 else n := by
      simp [IntKind.wrap, IntKind.signed, IntKind.bits]
      split <;> omega
    rw [e, bne_iff_ne]
    split <;> omega
  go_enter Tryz.func42, Tryz.ntmps42
  go_wp2
  go_ret
  exact ⟨rfl, rfl⟩
/-- 'x | y' where y lies below 2^i and x is a multiple of 2^i, x of any sign. -/
theorem or_i64 (i : Nat) (hi : i ≤ 63) (x y : Int) (hx : I64 x) (hm : x % 2 ^ i = 0) (hy0 : 0 ≤ y) (hy : y < 2 ^ i) : bits .or .i64 x y = x + y := by
  unfold I64 at hx
  obtain ⟨b, rfl⟩ := Int.eq_ofNat_of_zero_le hy0
  have hb' : b < 2 ^ i := by exact_mod_cast hy
  have h63 : (2 : Nat) ^ i ≤ 2 ^ 63 := Nat.pow_le_pow_right (by decide) hi
  have hb : b < 18446744073709551616 := by omega
  obtain ⟨a, ha⟩ : ∃ a : Nat, x % 18446744073709551616 = a := Int.eq_ofNat_of_zero_le (by omega)
  have ha2 : a < 18446744073709551616 := by omega
  have hdv : (18446744073709551616 : Int) % 2 ^ i = 0 := by
    obtain ⟨k, hk⟩ : ∃ k, 64 = i + k := ⟨64 - i, by omega⟩
    have e : (18446744073709551616 : Int) = 2 ^ i * 2 ^ k := by rw [← Int.pow_add, ← hk]; rfl
    rw [e]; exact Int.mul_emod_right _ _
  have hd : a % 2 ^ i = 0 := by
    have h1 : ((a : Int)) % 2 ^ i = 0 := by
      rw [← ha, Int.emod_def x, Int.sub_emod, hm, Int.mul_emod, hdv]; simp
    exact_mod_cast h1
  have h1 : (BitVec.ofInt 64 x).toNat = a := by
    rw [BitVec.toNat_ofInt]
    show (x % 18446744073709551616).toNat = a
    rw [ha]; rfl
  have h2 : (BitVec.ofInt 64 (b : Int)).toNat = b := by
    rw [BitVec.ofInt_natCast, BitVec.toNat_ofNat]; exact Nat.mod_eq_of_lt (by omega)
  have hq : a = 2 ^ i * (a / 2 ^ i) := by have := Nat.div_add_mod a (2 ^ i); omega
  have hor : a ||| b = a + b := by
    rw [hq, ← Nat.two_pow_add_eq_or_of_lt hb' (a / 2 ^ i)]
  have hlt : a ||| b < 2 ^ 64 := Nat.or_lt_two_pow (by omega) (by omega)
  show IntKind.i64.wrap ((BitVec.ofInt 64 x ||| BitVec.ofInt 64 (b : Int)).toNat : Int) = _
  rw [BitVec.toNat_or, h1, h2, IntKind.wrap_i64]
  rw [hor] at hlt ⊢
  rw [show (2 : Nat) ^ 64 = 18446744073709551616 from rfl] at hlt
  have hup : x + 2 ^ i ≤ 9223372036854775808 := by
    obtain ⟨k, hk⟩ : ∃ k, 63 = i + k := ⟨63 - i, by omega⟩
    have e : (9223372036854775808 : Int) = 2 ^ i * 2 ^ k := by rw [← Int.pow_add, ← hk]; rfl
    have ex : x = 2 ^ i * (x / 2 ^ i) := by have := Int.mul_ediv_add_emod x (2 ^ i); omega
    have hp : (0 : Int) < 2 ^ i := Int.pow_pos (by decide)
    have hlt : x / 2 ^ i < 2 ^ k := by
      refine Int.lt_of_mul_lt_mul_left (a := 2 ^ i) ?_ (Int.le_of_lt hp)
      rw [← e, ← ex]; omega
    have := Int.mul_le_mul_of_nonneg_left (show x / 2 ^ i + 1 ≤ 2 ^ k by omega) (Int.le_of_lt hp)
    rw [Int.mul_add, ← ex, ← e] at this
    omega
  omega
def accF (b : List Int) : Nat → Int
  | 0 => 0
  | i + 1 => accF b i * 256 + b.getD (2 + i) 0
theorem accF_bd {b : List Int} (hf : Fit b) : ∀ i, 0 ≤ accF b i ∧ accF b i < 256 ^ i
  | 0 => by unfold accF; omega
  | i + 1 => by
    have := accF_bd hf i
    have h := hf.getD (2 + i)
    unfold accF
    rw [Int.pow_succ]
    omega
theorem pow_le6 {i : Nat} (h : i ≤ 5) : (256 : Int) ^ i ≤ 1099511627776 := by
  match i, h with
  | 0, _ => decide
  | 1, _ => decide
  | 2, _ => decide
  | 3, _ => decide
  | 4, _ => decide
  | 5, _ => decide
theorem numF_yes {b : List Int} (h : b.length = 8 ∧ b.getD 0 0 = 193 ∧ b.getD 1 0 = 94) : numF b = some (accF b 6) := by
  unfold numF
  rw [if_pos h]
  congr 1
  simp only [accF, Nat.reduceAdd]
  omega
theorem numF_no {b : List Int} (h : ¬ (b.length = 8 ∧ b.getD 0 0 = 193 ∧ b.getD 1 0 = 94)) : numF b = none := if_neg h
def NumPost (w : World) (r : Option Int) (e : Ending) (w' : World) : Prop := e = .returned (.tuple #[.int .i64 (r.getD (-1)), .bool r.isSome]) ∧ w' = w
set_option maxRecDepth 100000 in
set_option maxHeartbeats 4000000 in
theorem number_yes (b off c : Nat) (xs : List Int) (w : World) (hb : Bys w (some ⟨b, off, none⟩) 8 xs) (hc : 8 ≤ c) (hm : c ≤ 9223372036854775807) (h0 : xs.getD 0 0 = 193) (h1 : xs.getD 1 0 = 94) :
    Calls Tryz.prog 60 #[.slice (some ⟨b, off, none⟩) 8 c] w (NumPost w (numF xs)) := by
  obtain ⟨b', off', e, _, hcell⟩ := hb.2.2 (by omega)
  cases e
  have hfit := hb.fit
  rw [numF_yes ⟨hb.len, h0, h1⟩]
  have c0 := hcell 0 (by omega)
  have c1 := hcell 1 (by omega)
  rw [h0, Nat.add_zero] at c0
  rw [h1] at c1
  have HC := Lib.hid hcell
  have HF := Lib.hid hfit
  obtain ⟨R, hR⟩ : ∃ x, accF xs 6 = x := ⟨_, rfl⟩
  rw [hR]
  have HR := Lib.hid hR
  clear hcell hfit hb hR
  go_enter Tryz.func60, Tryz.ntmps60
  go_wp2_with fail
  go_loopg [4, 25] 8 (fun gk s4 s25 wx => ∃ (i : Nat), s4 = .int .i64 (accF xs i) ∧ s25 = .int .i64 i ∧ i ≤ 6 ∧ 7 - i ≤ gk ∧ wx = w)
  case atStart => exact ⟨0, rfl, rfl, by omega, by omega, rfl⟩
  case round =>
    obtain ⟨i, rfl, rfl, hi, hgk, rfl⟩ := hrel
    by_cases hlt : i < 6
    · have hltz : (i : Int) < 6 := by omega
      obtain ⟨gk', rfl⟩ : ∃ g', gk = g' + 1 := ⟨gk - 1, by omega⟩
      have e1 : wr.cell? ⟨b, off + 2 + i, none⟩ = some (.int .u8 (xs.getD (2 + i) 0)) := by rw [Nat.add_assoc]; exact HC.out (2 + i) (by omega)
      have hx := HF.out.getD (2 + i)
      have hbd := accF_bd HF.out i
      have hp := pow_le6 (show i ≤ 5 by omega)
      have hs : accF xs (i + 1) = accF xs i * 256 + xs.getD (2 + i) 0 := rfl
      obtain ⟨x, hxe⟩ : ∃ x, xs.getD (2 + i) 0 = x := ⟨_, rfl⟩
      obtain ⟨a, hae⟩ : ∃ x, accF xs i = x := ⟨_, rfl⟩
      rw [hxe] at e1 hx hs
      rw [hae] at hbd hs ⊢
      have hw := IntWalk.i64_in (a * 256) (by omega)
      have hor := or_i64 8 (by decide) (a * 256) x (by unfold I64; omega) (by omega) (by omega) (by omega)
      have HS := Lib.hid hs
      have HG := Lib.hid hgk
      clear hs hxe hae hbd hp hgk
      go_wp2
      go_roundg gk'
      case measure => omega
      case rel => exact ⟨i + 1, by rw [HS.out], by go_num, by omega, by have := HG.out; omega, rfl⟩
    · have hltz : ¬ (i : Int) < 6 := by omega
      obtain rfl : i = 6 := by omega
      have hR := HR.out
      rw [hR]
      go_wp2
      go_ret2
      exact ⟨rfl, rfl⟩
set_option maxRecDepth 100000 in
set_option maxHeartbeats 4000000 in
theorem number_any (A : Option Addr) (n c : Nat) (xs : List Int) (w : World) (hb : Bys w A n xs) (hc : n ≤ c) (hm : c ≤ maxLen) :
    Calls Tryz.prog 60 #[.slice A n c] w (NumPost w (numF xs)) := by
  have hm9 : c ≤ 9223372036854775807 := by unfold maxLen at hm; omega
  by_cases h8 : n = 8
  · subst h8
    obtain ⟨b, off, rfl, _, hcell⟩ := hb.2.2 (by omega)
    by_cases h0 : xs.getD 0 0 = 193
    · by_cases h1 : xs.getD 1 0 = 94
      · exact number_yes b off c xs w hb hc hm9 h0 h1
      · rw [numF_no fun h => h1 h.2.2]
        have c0 := hcell 0 (by omega)
        have c1 := hcell 1 (by omega)
        rw [h0, Nat.add_zero] at c0
        obtain ⟨x, hx⟩ : ∃ x, xs.getD 1 0 = x := ⟨_, rfl⟩
        rw [hx] at c1 h1
        clear hcell hb h0 hx
        go_enter Tryz.func60, Tryz.ntmps60
        go_wp2
        go_ret2
        exact ⟨rfl, rfl⟩
    · rw [numF_no fun h => h0 h.2.1]
      have c0 := hcell 0 (by omega)
      rw [Nat.add_zero] at c0
      obtain ⟨x, hx⟩ : ∃ x, xs.getD 0 0 = x := ⟨_, rfl⟩
      rw [hx] at c0 h0
      clear hcell hb hx
      go_enter Tryz.func60, Tryz.ntmps60
      go_wp2
      go_ret2
      exact ⟨rfl, rfl⟩
  · rw [numF_no fun h => h8 (hb.len.symm.trans h.1)]
    have h8z : ¬ (n : Int) = 8 := by omega
    clear hb
    go_enter Tryz.func60, Tryz.ntmps60
    go_wp2
    go_ret2
    exact ⟨rfl, rfl⟩
end Go.Proofs.YtlhogjigdmpokaaGreatDoor.vtc
namespace Go.Proofs.YtlhogjigdmpokaaGreatDoor.vtc
open Go.RowKit Go.Proofs.YtlhogjigdmpokaaGreatDoor.tlvc Go.Proofs.YtlhogjigdmpokaaGreatDoor.tmc
set_option linter.unusedVariables false
set_option maxRecDepth 100000 in
set_option maxHeartbeats 4000000 in
theorem rnumber_yes (b off c : Nat) (xs : List Int) (w : World) (hb : Bys w (some ⟨b, off, none⟩) 8 xs) (hc : 8 ≤ c) (hm : c ≤ 9223372036854775807) (h0 : xs.getD 0 0 = 193) (h1 : xs.getD 1 0 = 94) :
    Calls Tryz.prog 39 #[.slice (some ⟨b, off, none⟩) 8 c] w (NumPost w (numF xs)) := by
  obtain ⟨b', off', e, _, hcell⟩ := hb.2.2 (by omega)
  cases e
  have hfit := hb.fit
  rw [numF_yes ⟨hb.len, h0, h1⟩]
  have c0 := hcell 0 (by omega)
  have c1 := hcell 1 (by omega)
  rw [h0, Nat.add_zero] at c0
  rw [h1] at c1
  have HC := Lib.hid hcell
  have HF := Lib.hid hfit
  obtain ⟨R, hR⟩ : ∃ x, accF xs 6 = x := ⟨_, rfl⟩
  rw [hR]
  have HR := Lib.hid hR
  clear hcell hfit hb hR
  go_enter Tryz.func39, Tryz.ntmps39
  go_wp2_with fail
  go_loopg [4, 5] 8 (fun gk s4 s5 wx => ∃ (i : Nat), s4 = .int .i64 (accF xs i) ∧ s5 = .int .i64 ((2 + i : Nat) : Int) ∧ i ≤ 6 ∧ 7 - i ≤ gk ∧ wx = w)
  case atStart => exact ⟨0, rfl, rfl, by omega, by omega, rfl⟩
  case round =>
    obtain ⟨i, rfl, rfl, hi, hgk, rfl⟩ := hrel
    by_cases hlt : i < 6
    · have hltz : ((2 + i : Nat) : Int) < 8 := by omega
      have hltn : 2 + i < 8 := by omega
      obtain ⟨gk', rfl⟩ : ∃ g', gk = g' + 1 := ⟨gk - 1, by omega⟩
      have e1 : wr.cell? ⟨b, off + (2 + i), none⟩ = some (.int .u8 (xs.getD (2 + i) 0)) := HC.out (2 + i) (by omega)
      have hx := HF.out.getD (2 + i)
      have hbd := accF_bd HF.out i
      have hp := pow_le6 (show i ≤ 5 by omega)
      have hs : accF xs (i + 1) = accF xs i * 256 + xs.getD (2 + i) 0 := rfl
      obtain ⟨x, hxe⟩ : ∃ x, xs.getD (2 + i) 0 = x := ⟨_, rfl⟩
      obtain ⟨a, hae⟩ : ∃ x, accF xs i = x := ⟨_, rfl⟩
      rw [hxe] at e1 hx hs
      rw [hae] at hbd hs ⊢
      have hw := IntWalk.i64_in (a * 256) (by omega)
      have hor := or_i64 8 (by decide) (a * 256) x (by unfold I64; omega) (by omega) (by omega) (by omega)
      obtain ⟨p, hpe⟩ : ∃ p, 2 + i = p := ⟨_, rfl⟩
      have HPE := Lib.hid hpe
      rw [hpe] at hltz hltn e1 ⊢
      have HS := Lib.hid hs
      have HG := Lib.hid hgk
      clear hs hxe hae hbd hp hgk hpe
      go_wp2
      go_roundg gk'
      case measure => omega
      case rel => exact ⟨i + 1, by rw [HS.out], by have := HPE.out; go_num, by omega, by have := HG.out; omega, rfl⟩
    · have hltz : ¬ ((2 + i : Nat) : Int) < 8 := by omega
      obtain rfl : i = 6 := by omega
      have hR := HR.out
      rw [hR]
      go_wp2
      go_ret2
      exact ⟨rfl, rfl⟩
set_option maxRecDepth 100000 in
set_option maxHeartbeats 4000000 in
theorem rnumber_any (A : Option Addr) (n c : Nat) (xs : List Int) (w : World) (hb : Bys w A n xs) (hc : n ≤ c) (hm : c ≤ maxLen) :
    Calls Tryz.prog 39 #[.slice A n c] w (NumPost w (numF xs)) := by
  have hm9 : c ≤ 9223372036854775807 := by unfold maxLen at hm; omega
  by_cases h8 : n = 8
  · subst h8
    obtain ⟨b, off, rfl, _, hcell⟩ := hb.2.2 (by omega)
    by_cases h0 : xs.getD 0 0 = 193
    · by_cases h1 : xs.getD 1 0 = 94
      · exact rnumber_yes b off c xs w hb hc hm9 h0 h1
      · rw [numF_no fun h => h1 h.2.2]
        have c0 := hcell 0 (by omega)
        have c1 := hcell 1 (by omega)
        rw [h0, Nat.add_zero] at c0
        obtain ⟨x, hx⟩ : ∃ x, xs.getD 1 0 = x := ⟨_, rfl⟩
        rw [hx] at c1 h1
        clear hcell hb h0 hx
        go_enter Tryz.func39, Tryz.ntmps39
        go_wp2
        go_ret2
        exact ⟨rfl, rfl⟩
    · rw [numF_no fun h => h0 h.2.1]
      have c0 := hcell 0 (by omega)
      rw [Nat.add_zero] at c0
      obtain ⟨x, hx⟩ : ∃ x, xs.getD 0 0 = x := ⟨_, rfl⟩
      rw [hx] at c0 h0
      clear hcell hb hx
      go_enter Tryz.func39, Tryz.ntmps39
      go_wp2
      go_ret2
      exact ⟨rfl, rfl⟩
  · rw [numF_no fun h => h8 (hb.len.symm.trans h.1)]
    have h8z : ¬ (n : Int) = 8 := by omega
    clear hb
    go_enter Tryz.func39, Tryz.ntmps39
    go_wp2
    go_ret2
    exact ⟨rfl, rfl⟩
def BysPost (w : World) (xs : List Int) (e : Ending) (w' : World) : Prop := ∃ A c, e = .returned (.slice A xs.length c) ∧ Bys w' A xs.length xs ∧ (xs.length ≤ c ∧ c ≤ maxLen) ∧ Below w.heap.size w w'
theorem hbF_none {n : Int} (h : ¬ (0 ≤ n ∧ n < 281474976710656)) : hbF n = [] := if_neg h
theorem menF_none {n : Int} (h : ¬ (0 ≤ n ∧ n < 281474976710656)) : menF n = [] := if_neg h
theorem nil_post (w : World) : BysPost w [] (.returned (.slice none 0 0)) w := ⟨none, 0, rfl, Bys.nil_ _ _, ⟨Nat.le_refl _, Nat.zero_le _⟩, Below.refl _ _⟩
theorem hb_bys (n : Int) (w : World) (h : 0 ≤ n ∧ n < 281474976710656) : Bys (w.alloc (.cells (vals (hbF n)).toArray 5)) (some ⟨w.heap.size, 0, none⟩) 8 (hbF n) :=
  ⟨hbF_len h, hbF_fit n, fun _ => ⟨w.heap.size, 0, rfl, by simp, fun j hj => by
    rw [Nat.zero_add, Lib.cell_of_heap (heap_new_ _ _)]
    simp [vals, List.getD_eq_getElem?_getD, List.getElem?_eq_getElem (show j < (hbF n).length by rw [hbF_len h]; exact hj)]⟩⟩
theorem bytes_any (n : Int) (w : World) (hi : -9223372036854775808 ≤ n ∧ n ≤ 9223372036854775807) : Calls Tryz.prog 42 #[.int .i64 n] w (BysPost w (hbF n)) := by
  by_cases h : 0 ≤ n ∧ n < 281474976710656
  · refine (bytes_yes n w h).mono ?_
    rintro e w' ⟨rfl, rfl⟩
    refine ⟨_, 8, by rw [hbF_len h], by rw [hbF_len h]; exact hb_bys n w h, ⟨by rw [hbF_len h]; exact Nat.le_refl _, by decide⟩, below_new _ _⟩
  · refine (bytes_no n w hi h).mono ?_
    rintro e w' ⟨rfl, rfl⟩
    rw [hbF_none h]
    exact nil_post _
/-- Two bytes, and others behind them. -/
theorem app_two (w : World) (x y : Int) (A : Option Addr) (m c : Nat) (ys : List Int) (hb : Bys w A m ys) (hm : m ≤ 100) (hx : 0 ≤ x ∧ x ≤ 255) (hy : 0 ≤ y ∧ y ≤ 255) :
    ∃ A' c' w', (Builtin.append_ #[24, 24] 24 #[.slice (some ⟨w.heap.size, 0, none⟩) 2 2, .slice A m c]).run Tryz.prog (w.alloc (.cells #[.int .u8 x, .int .u8 y] 5)) = .ok (.slice A' (2 + m) c') w' ∧ w'.ownsRow w.heap.size 5 1 (.slice A' (2 + m) c') (2 + m) (vals (x :: y :: ys)) ∧ Bys w' A' (2 + m) (x :: y :: ys) ∧ (2 + m ≤ c' ∧ c' ≤ maxLen) ∧ Below w.heap.size w w' := by
  obtain ⟨v', w', h1, h2, h3, _⟩ := app_long (w.alloc (.cells #[.int .u8 x, .int .u8 y] 5)) w.heap.size (.slice (some ⟨w.heap.size, 0, none⟩) 2 2) 2 (vals [x, y]) (World.ownsRow_lit w #[.int .u8 x, .int .u8 y] 2 (Nat.le_refl _) (by decide) rfl) A m c ys (hb.alloc _) (by omega) (by simp)
  rw [← vals_append] at h2
  obtain ⟨A', c', rfl, g1, g2, _⟩ := own_shape h2
  refine ⟨A', c', w', h1, h2, Bys.own h2 (fun z hz => ?_), ⟨g1, g2⟩, (below_new w _).grown h3 (by simp) fun j hj => by have hj : some w.heap.size = some j := hj; cases hj; exact Nat.le_refl _⟩
  have hz : z ∈ x :: y :: ys := hz
  rw [List.mem_cons, List.mem_cons] at hz
  rcases hz with rfl | rfl | hz
  · exact hx
  · exact hy
  · exact hb.2.1 z hz
set_option maxRecDepth 100000 in
theorem mention_any (n : Int) (w : World) (hi : -9223372036854775808 ≤ n ∧ n ≤ 9223372036854775807) : Calls Tryz.prog 22 #[.int .i64 n] w (BysPost w (menF n)) := by
  by_cases h : 0 ≤ n ∧ n < 281474976710656
  · have hl := menF_len h
    have he : menF n = 4 :: 8 :: hbF n := if_pos h
    obtain ⟨A', c', w', hrun, h2, h3, h4, h5⟩ := app_two (w.alloc (.cells (vals (hbF n)).toArray 5)) 4 8 (some ⟨w.heap.size, 0, none⟩) 8 8 (hbF n) (hb_bys n w h) (by omega) (by omega) (by omega)
    rw [← he] at h3
    have HE := Lib.hid (And.intro h3 (And.intro h4 ((below_new w _).trans (h5.mono (below_new w _).size))))
    have HB := Lib.hid (bytes_yes n w h)
    have hnil := fun W => eql_nil (P := Tryz.prog) W 24 5 (some ⟨w.heap.size, 0, none⟩) 8 8 Tryz.underlying24
    obtain ⟨W1, hW1⟩ : ∃ x, w.alloc (.cells (vals (hbF n)).toArray 5) = x := ⟨_, rfl⟩
    rw [hW1] at HB hrun
    clear h2 h3 h4 h5
    go_enter Tryz.func22, Tryz.ntmps22
    go_wp2_with (first | (go_at_call 42; refine HB.out.mono ?_; rintro e w1 ⟨rfl, rfl⟩) | (at_builtin; refine wpl_append rfl (.tmp 8) (.tmp 9) 24 rfl _ _ _ rfl rfl hrun ?_))
    go_ret
    exact ⟨A', c', by rw [hl]; rfl, by rw [hl]; exact HE.out.1, by rw [hl]; exact HE.out.2.1, HE.out.2.2⟩
  · rw [menF_none h]
    have HB := Lib.hid (bytes_no n w hi h)
    have hnil := fun W => eql_nil (P := Tryz.prog) W 24 5 none 0 0 Tryz.underlying24
    go_enter Tryz.func22, Tryz.ntmps22
    go_wp2_with (go_at_call 42; refine HB.out.mono ?_; rintro e w1 ⟨rfl, rfl⟩)
    go_ret
    exact nil_post _
theorem hbF_at {n : Int} (h : 0 ≤ n ∧ n < 281474976710656) (j : Nat) (hj : j < 6) : (hbF n).take (2 + j + 1) = (hbF n).take (2 + j) ++ [(hbF n).getD (2 + j) 0] := by
  rw [List.take_succ_eq_append_getElem (by rw [hbF_len h]; omega), List.getD_eq_getElem?_getD, List.getElem?_eq_getElem (by rw [hbF_len h]; omega)]
  rfl
end Go.Proofs.YtlhogjigdmpokaaGreatDoor.vtc
