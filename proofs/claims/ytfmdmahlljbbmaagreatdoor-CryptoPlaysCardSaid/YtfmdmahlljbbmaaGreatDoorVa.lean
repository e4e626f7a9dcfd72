/- Handles' bytes, mentions, and which numbers some bytes mention: plain. Nothing here names the program. -/
import Derived.Test.YtfmdmahlljbbmaaGreatDoorTa
namespace Go.Proofs.YtfmdmahlljbbmaaGreatDoor.vtc
open Go.RowKit Go.Proofs.YtfmdmahlljbbmaaGreatDoor.tlvc
set_option linter.unusedVariables false
/-- A number's bytes; nothing, if it is none. -/
def hbF (n : Int) : List Int := if 0 ≤ n ∧ n < 281474976710656 then [193, 94, n / 1099511627776 % 256, n / 4294967296 % 256, n / 16777216 % 256, n / 65536 % 256, n / 256 % 256, n % 256] else []
/-- The number whose bytes these are. -/
def numF (b : List Int) : Option Int := if b.length = 8 ∧ b.getD 0 0 = 193 ∧ b.getD 1 0 = 94 then some (((((b.getD 2 0 * 256 + b.getD 3 0) * 256 + b.getD 4 0) * 256 + b.getD 5 0) * 256 + b.getD 6 0) * 256 + b.getD 7 0) else none
def menF (n : Int) : List Int := if 0 ≤ n ∧ n < 281474976710656 then 4 :: 8 :: hbF n else []
theorem hbF_yes {n : Int} (h : 0 ≤ n ∧ n < 281474976710656) : hbF n = [193, 94, n / 1099511627776 % 256, n / 4294967296 % 256, n / 16777216 % 256, n / 65536 % 256, n / 256 % 256, n % 256] := if_pos h
theorem hbF_len {n : Int} (h : 0 ≤ n ∧ n < 281474976710656) : (hbF n).length = 8 := by rw [hbF_yes h]; rfl
theorem menF_len {n : Int} (h : 0 ≤ n ∧ n < 281474976710656) : (menF n).length = 10 := by unfold menF; rw [if_pos h, List.length_cons, List.length_cons, hbF_len h]
theorem hbF_fit (n : Int) : Fit (hbF n) := by
  unfold hbF
  split
  · intro x hx
    simp only [List.mem_cons, List.not_mem_nil, or_false] at hx
    rcases hx with rfl | rfl | rfl | rfl | rfl | rfl | rfl | rfl <;> omega
  · intro x hx; simp at hx
theorem num_hb {n : Int} (h : 0 ≤ n ∧ n < 281474976710656) : numF (hbF n) = some n := by
  rw [hbF_yes h]
  unfold numF
  rw [if_pos ⟨rfl, rfl, rfl⟩]
  simp only [List.getD_cons_succ, List.getD_cons_zero]
  congr 1
  omega
theorem eight {b : List Int} (h : b.length = 8) : ∃ a0 a1 a2 a3 a4 a5 a6 a7, b = [a0, a1, a2, a3, a4, a5, a6, a7] := by
  match b, h with
  | [a0, a1, a2, a3, a4, a5, a6, a7], _ => exact ⟨a0, a1, a2, a3, a4, a5, a6, a7, rfl⟩
theorem num_some {b : List Int} {n : Int} (hf : Fit b) (h : numF b = some n) : (0 ≤ n ∧ n < 281474976710656) ∧ hbF n = b := by
  unfold numF at h
  split at h
  · rename_i hc
    obtain ⟨h8, h0, h1⟩ := hc
    obtain ⟨a0, a1, a2, a3, a4, a5, a6, a7, rfl⟩ := eight h8
    simp only [List.getD_cons_succ, List.getD_cons_zero] at h h0 h1
    have e := Option.some.inj h
    have f2 := hf a2 (by simp)
    have f3 := hf a3 (by simp)
    have f4 := hf a4 (by simp)
    have f5 := hf a5 (by simp)
    have f6 := hf a6 (by simp)
    have f7 := hf a7 (by simp)
    have hr : 0 ≤ n ∧ n < 281474976710656 := by omega
    refine ⟨hr, ?_⟩
    rw [hbF_yes hr, h0, h1]
    have g7 : n % 256 = a7 := by omega
    have g6 : n / 256 % 256 = a6 := by omega
    have g5 : n / 65536 % 256 = a5 := by omega
    have g4 : n / 16777216 % 256 = a4 := by omega
    have g3 : n / 4294967296 % 256 = a3 := by omega
    have g2 : n / 1099511627776 % 256 = a2 := by omega
    rw [g2, g3, g4, g5, g6, g7]
  · cases h
theorem hb_inj {n k : Int} (h : 0 ≤ n ∧ n < 281474976710656) (h' : 0 ≤ k ∧ k < 281474976710656) (e : hbF n = hbF k) : n = k := by
  have h1 := num_hb h
  rw [e, num_hb h'] at h1
  exact (Option.some.inj h1).symm
/-- The number that these bytes mention at this place. -/
def atF (b : List Int) (i : Nat) : Option Int := if i + 10 ≤ b.length ∧ b.getD i 0 = 4 ∧ b.getD (i + 1) 0 = 8 then numF ((b.drop (i + 2)).take 8) else none
/-- b mentions n. -/
def Says (b : List Int) (n : Int) : Prop := ∃ i, atF b i = some n
theorem says_iff {b : List Int} (hf : Fit b) (n : Int) : Says b n ↔ (0 ≤ n ∧ n < 281474976710656) ∧ ∃ p q, b = p ++ menF n ++ q := by
  constructor
  · rintro ⟨i, h⟩
    unfold atF at h
    split at h
    · rename_i hc
      obtain ⟨hl, h4, h8⟩ := hc
      obtain ⟨hr, hb⟩ := num_some (fun x hx => hf x (List.mem_of_mem_drop (List.mem_of_mem_take hx))) h
      refine ⟨hr, b.take i, b.drop (i + 10), ?_⟩
      have e1 : b.drop i = 4 :: 8 :: b.drop (i + 2) := by
        rw [List.drop_eq_getElem_cons (show i < b.length by omega), List.drop_eq_getElem_cons (show i + 1 < b.length by omega)]
        rw [List.getD_eq_getElem?_getD, List.getElem?_eq_getElem (by omega), Option.getD_some] at h4 h8
        rw [h4, h8]
      have e2 : b.drop (i + 2) = hbF n ++ b.drop (i + 10) := by
        rw [hb]
        conv => lhs; rw [← List.take_append_drop 8 (b.drop (i + 2))]
        rw [List.drop_drop]
      unfold menF
      rw [if_pos hr]
      conv => lhs; rw [← List.take_append_drop i b, e1, e2]
      simp
    · cases h
  · rintro ⟨hr, p, q, rfl⟩
    refine ⟨p.length, ?_⟩
    have hm : menF n = 4 :: 8 :: hbF n := if_pos hr
    have hd : ∀ k, (p ++ menF n ++ q).drop (p.length + k) = (menF n ++ q).drop k := fun k => by rw [List.append_assoc, List.drop_length_add_append]
    unfold atF
    rw [if_pos]
    · rw [hd 2, hm]
      show numF ((hbF n ++ q).take 8) = some n
      rw [List.take_append_of_le_length (by rw [hbF_len hr]; omega), List.take_of_length_le (by rw [hbF_len hr]; omega), num_hb hr]
    · refine ⟨by rw [List.length_append, List.length_append, menF_len hr]; omega, ?_, ?_⟩
      · rw [hm, List.getD_eq_getElem?_getD, List.append_assoc, List.getElem?_append_right (Nat.le_refl _), Nat.sub_self]; rfl
      · rw [hm, List.getD_eq_getElem?_getD, List.append_assoc, List.getElem?_append_right (Nat.le_succ _), show p.length + 1 - p.length = 1 by omega]; rfl
/-- Rising numbers, each once. -/
def Rise (l : List Int) : Prop := l.Pairwise (· < ·)
theorem rise_eq : ∀ {l k : List Int}, Rise l → Rise k → (∀ n, n ∈ l ↔ n ∈ k) → l = k
  | [], [], _, _, _ => rfl
  | [], b :: k, _, _, h => by have := (h b).2 (by simp); simp at this
  | a :: l, [], _, _, h => by have := (h a).1 (by simp); simp at this
  | a :: l, b :: k, hl, hk, h => by
    obtain ⟨l1, l2⟩ := List.pairwise_cons.1 hl
    obtain ⟨k1, k2⟩ := List.pairwise_cons.1 hk
    have hab : a = b := by
      rcases List.mem_cons.1 ((h a).1 (by simp)) with e | e
      · exact e
      · rcases List.mem_cons.1 ((h b).2 (by simp)) with e' | e'
        · exact e'.symm
        · have := k1 a e; have := l1 b e'; omega
    subst hab
    congr 1
    refine rise_eq l2 k2 fun n => ⟨fun hn => ?_, fun hn => ?_⟩
    · rcases List.mem_cons.1 ((h n).1 (List.mem_cons_of_mem _ hn)) with e | e
      · subst e; have := l1 n hn; omega
      · exact e
    · rcases List.mem_cons.1 ((h n).2 (List.mem_cons_of_mem _ hn)) with e | e
      · subst e; have := k1 n hn; omega
      · exact e
/-- Where a number stands among rising ones, counted from the end: the document's way. -/
def spotF (l : List Int) (n : Int) : Nat → Nat
  | 0 => 0
  | k + 1 => if n ≤ l.getD k 0 then spotF l n k else k + 1
theorem spotF_le (l : List Int) (n : Int) : ∀ k, spotF l n k ≤ k
  | 0 => Nat.le_refl _
  | k + 1 => by
    unfold spotF
    split
    · exact Nat.le_succ_of_le (spotF_le l n k)
    · exact Nat.le_refl _
theorem spotF_spec (l : List Int) (n : Int) : ∀ k, (∀ j, spotF l n k ≤ j → j < k → n ≤ l.getD j 0) ∧ (0 < spotF l n k → l.getD (spotF l n k - 1) 0 < n)
  | 0 => ⟨fun j h1 h2 => by omega, fun h => by unfold spotF at h; omega⟩
  | k + 1 => by
    obtain ⟨i1, i2⟩ := spotF_spec l n k
    unfold spotF
    split
    · rename_i h
      refine ⟨fun j h1 h2 => ?_, i2⟩
      rcases Nat.lt_or_ge j k with h3 | h3
      · exact i1 j h1 h3
      · obtain rfl : j = k := by omega
        exact h
    · rename_i h
      exact ⟨fun j h1 h2 => by omega, fun _ => by rw [Nat.add_sub_cancel]; omega⟩
/-- A number into rising ones. -/
def insF (l : List Int) (n : Int) : List Int := if spotF l n l.length < l.length ∧ l.getD (spotF l n l.length) 0 = n then l else l.take (spotF l n l.length) ++ n :: l.drop (spotF l n l.length)
theorem rise_at {l : List Int} (h : Rise l) {i j : Nat} (hij : i < j) (hj : j < l.length) : l.getD i 0 < l.getD j 0 := by
  have := List.pairwise_iff_getElem.1 h i j (by omega) hj hij
  rwa [List.getD_eq_getElem?_getD, List.getD_eq_getElem?_getD, List.getElem?_eq_getElem (by omega), List.getElem?_eq_getElem hj]
theorem insF_mem {l : List Int} (n m : Int) : m ∈ insF l n ↔ m = n ∨ m ∈ l := by
  unfold insF
  split
  · rename_i h
    constructor
    · exact fun hm => .inr hm
    · rintro (rfl | hm)
      · have hk : l.getD (spotF l m l.length) 0 ∈ l := by rw [List.getD_eq_getElem?_getD, List.getElem?_eq_getElem h.1]; exact List.getElem_mem h.1
        rw [h.2] at hk
        exact hk
      · exact hm
  · rw [List.mem_append, List.mem_cons]
    conv => rhs; rw [← List.take_append_drop (spotF l n l.length) l, List.mem_append]
    constructor
    · rintro (h | h | h)
      · exact .inr (.inl h)
      · exact .inl h
      · exact .inr (.inr h)
    · rintro (h | h | h)
      · exact .inr (.inl h)
      · exact .inl h
      · exact .inr (.inr h)
theorem insF_rise {l : List Int} (hl : Rise l) (n : Int) : Rise (insF l n) := by
  obtain ⟨s1, s2⟩ := spotF_spec l n l.length
  have hle := spotF_le l n l.length
  unfold insF
  obtain ⟨p, hp⟩ : ∃ y, spotF l n l.length = y := ⟨_, rfl⟩
  rw [hp] at s1 s2 hle ⊢
  split
  · exact hl
  · rename_i hne
    unfold Rise
    have ha : ∀ x ∈ l.take p, x < n := fun x hx => by
      obtain ⟨i, hi, rfl⟩ := List.getElem_of_mem hx
      rw [List.length_take] at hi
      rw [List.getElem_take]
      have h2 := s2 (by omega)
      have e : l[i] = l.getD i 0 := by rw [List.getD_eq_getElem?_getD, List.getElem?_eq_getElem (by omega)]; rfl
      rw [e]
      rcases Nat.lt_or_ge i (p - 1) with h | h
      · have := rise_at hl h (by omega); omega
      · obtain rfl : i = p - 1 := by omega
        exact h2
    have hb : ∀ x ∈ l.drop p, n < x := fun x hx => by
      obtain ⟨i, hi, rfl⟩ := List.getElem_of_mem hx
      rw [List.length_drop] at hi
      rw [List.getElem_drop]
      have e : l[p + i] = l.getD (p + i) 0 := by rw [List.getD_eq_getElem?_getD, List.getElem?_eq_getElem (by omega)]; rfl
      rw [e]
      have h0 := s1 p (Nat.le_refl _) (by omega)
      have hn0 : l.getD p 0 ≠ n := fun h => hne ⟨by omega, h⟩
      rcases Nat.eq_zero_or_pos i with h | h
      · subst h; rw [Nat.add_zero]; omega
      · have := rise_at hl (show p < p + i by omega) (by omega); omega
    rw [List.pairwise_append]
    refine ⟨List.Pairwise.sublist (List.take_sublist _ _) hl, List.pairwise_cons.2 ⟨hb, List.Pairwise.sublist (List.drop_sublist _ _) hl⟩, fun x hx y hy => ?_⟩
    rcases List.mem_cons.1 hy with rfl | hy
    · exact ha x hx
    · have := ha x hx; have := hb y hy; omega
/-- The numbers below a bound that b mentions at its first k places: the document's way. -/
def msF (b : List Int) (below : Int) : Nat → List Int
  | 0 => []
  | k + 1 => match atF b k with
    | some n => if n < below then insF (msF b below k) n else msF b below k
    | none => msF b below k
theorem msF_rise (b : List Int) (below : Int) : ∀ k, Rise (msF b below k)
  | 0 => List.Pairwise.nil
  | k + 1 => by
    unfold msF
    split
    · split
      · exact insF_rise (msF_rise b below k) _
      · exact msF_rise b below k
    · exact msF_rise b below k
theorem msF_mem (b : List Int) (below : Int) (m : Int) : ∀ k, m ∈ msF b below k ↔ m < below ∧ ∃ i, i < k ∧ atF b i = some m
  | 0 => by unfold msF; simp
  | k + 1 => by
    have ih := msF_mem b below m k
    have hs : (∃ i, i < k + 1 ∧ atF b i = some m) ↔ (∃ i, i < k ∧ atF b i = some m) ∨ atF b k = some m := by
      constructor
      · rintro ⟨i, hi, h⟩
        rcases Nat.lt_or_ge i k with h2 | h2
        · exact .inl ⟨i, h2, h⟩
        · obtain rfl : i = k := by omega
          exact .inr h
      · rintro (⟨i, hi, h⟩ | h)
        · exact ⟨i, by omega, h⟩
        · exact ⟨k, by omega, h⟩
    rw [hs]
    unfold msF
    split
    · rename_i n hn
      split
      · rename_i hb
        rw [insF_mem, ih]
        constructor
        · rintro (rfl | ⟨h1, h2⟩)
          · exact ⟨hb, .inr hn⟩
          · exact ⟨h1, .inl h2⟩
        · rintro ⟨h1, h2 | h2⟩
          · exact .inr ⟨h1, h2⟩
          · rw [hn] at h2; exact .inl (Option.some.inj h2).symm
      · rename_i hb
        rw [ih]
        constructor
        · rintro ⟨h1, h2⟩; exact ⟨h1, .inl h2⟩
        · rintro ⟨h1, h2 | h2⟩
          · exact ⟨h1, h2⟩
          · rw [hn] at h2; cases h2; omega
    · rename_i hn
      rw [ih]
      constructor
      · rintro ⟨h1, h2⟩; exact ⟨h1, .inl h2⟩
      · rintro ⟨h1, h2 | h2⟩
        · exact ⟨h1, h2⟩
        · rw [hn] at h2; cases h2
/-- All that b mentions below a bound. -/
def mentionsF (b : List Int) (below : Int) : List Int := msF b below (b.length - 9)
theorem mentions_mem (b : List Int) (below m : Int) : m ∈ mentionsF b below ↔ m < below ∧ Says b m := by
  unfold mentionsF
  rw [msF_mem]
  constructor
  · rintro ⟨h1, i, _, h⟩; exact ⟨h1, i, h⟩
  · rintro ⟨h1, i, h⟩
    refine ⟨h1, i, ?_, h⟩
    unfold atF at h
    split at h
    · omega
    · cases h
theorem mentions_rise (b : List Int) (below : Int) : Rise (mentionsF b below) := msF_rise b below _
/-- Whatever rises and has just these is it. -/
theorem mentions_is {b : List Int} {below : Int} {l : List Int} (hl : Rise l) (h : ∀ m, m ∈ l ↔ m < below ∧ Says b m) : l = mentionsF b below :=
  rise_eq hl (mentions_rise b below) fun m => (h m).trans (mentions_mem b below m).symm
end Go.Proofs.YtfmdmahlljbbmaaGreatDoor.vtc
