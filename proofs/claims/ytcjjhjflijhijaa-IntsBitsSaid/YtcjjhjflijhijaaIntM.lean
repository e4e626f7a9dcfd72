/- Plain facts on the bodies of numbers: two's complement, the highest byte first, as few as may be. Nothing here names the program. -/
namespace Go.Proofs.Ytcjjhjflijhijaa.intm

def I64 (n : Int) : Prop := -9223372036854775808 ≤ n ∧ n ≤ 9223372036854775807
def width (n : Int) : Nat :=
  if -128 ≤ n ∧ n ≤ 127 then 1 else if -32768 ≤ n ∧ n ≤ 32767 then 2 else if -8388608 ≤ n ∧ n ≤ 8388607 then 3
  else if -2147483648 ≤ n ∧ n ≤ 2147483647 then 4 else if -549755813888 ≤ n ∧ n ≤ 549755813887 then 5
  else if -140737488355328 ≤ n ∧ n ≤ 140737488355327 then 6 else if -36028797018963968 ≤ n ∧ n ≤ 36028797018963967 then 7 else 8
theorem width_bd (n : Int) : 1 ≤ width n ∧ width n ≤ 8 := by
  unfold width
  repeat' split
  all_goals omega
theorem width_one {n : Int} (h : -128 ≤ n ∧ n ≤ 127) : width n = 1 := by unfold width; rw [if_pos h]
theorem width_step {n : Int} (h : ¬ (-128 ≤ n ∧ n ≤ 127)) (hb : I64 n) : width n = width (n / 256) + 1 := by
  unfold I64 at hb
  have key : width n = 1 + width (n / 256) := by
    unfold width
    rw [if_neg h]
    repeat' split
    all_goals omega
  omega

/-- n's w lowest bytes, the highest first. -/
def enc : Nat → Int → List Int
  | 0, _ => []
  | w + 1, n => enc w (n / 256) ++ [n % 256]
theorem enc_length (w : Nat) (n : Int) : (enc w n).length = w := by
  induction w generalizing n with
  | zero => rfl
  | succ w ih => simp [enc, ih]
def putI (n : Int) : List Int := enc (width n) n
theorem putI_length (n : Int) : (putI n).length = width n := enc_length _ _
theorem putI_one {n : Int} (h : -128 ≤ n ∧ n ≤ 127) : putI n = [n % 256] := by unfold putI; rw [width_one h]; simp [enc]
theorem putI_step {n : Int} (h : ¬ (-128 ≤ n ∧ n ≤ 127)) (hb : I64 n) : putI n = putI (n / 256) ++ [n % 256] := by
  unfold putI; rw [width_step h hb]; rfl
theorem enc_bytes (w : Nat) (n : Int) : ∀ x ∈ enc w n, 0 ≤ x ∧ x ≤ 255 := by
  induction w generalizing n with
  | zero => intro x hx; simp [enc] at hx
  | succ w ih =>
    intro x hx
    simp only [enc, List.mem_append, List.mem_singleton] at hx
    rcases hx with h | rfl
    · exact ih _ x h
    · omega
theorem putI_bytes (n : Int) : ∀ x ∈ putI n, 0 ≤ x ∧ x ≤ 255 := enc_bytes _ _

/-- The byte at a place. -/
theorem enc_getD (w : Nat) (n : Int) (i : Nat) (hi : i < w) : (enc w n).getD i 0 = n / 256 ^ (w - 1 - i) % 256 := by
  induction w generalizing n with
  | zero => omega
  | succ w ih =>
    simp only [enc]
    by_cases h : i < w
    · rw [List.getD_eq_getElem?_getD, List.getElem?_append_left (by rw [enc_length]; exact h), ← List.getD_eq_getElem?_getD, ih _ h]
      have e : w + 1 - 1 - i = (w - 1 - i) + 1 := by omega
      rw [e, Int.pow_succ, Int.mul_comm, Int.ediv_ediv_of_nonneg (by decide)]
    · have e : i = w := by omega
      subst e
      rw [List.getD_eq_getElem?_getD, List.getElem?_append_right (by rw [enc_length]; exact Nat.le_refl _), enc_length]
      simp

/-! What a body tells. -/
def s8 (b : Int) : Int := if b < 128 then b else b - 256
def decFrom (a : Int) (xs : List Int) : Int := xs.foldl (fun a x => a * 256 + x) a
def dec : List Int → Int
  | [] => 0
  | b :: r => decFrom (s8 b) r
theorem decFrom_snoc (a : Int) (xs : List Int) (x : Int) : decFrom a (xs ++ [x]) = decFrom a xs * 256 + x := by simp [decFrom]
theorem dec_snoc (xs : List Int) (x : Int) (h : xs ≠ []) : dec (xs ++ [x]) = dec xs * 256 + x := by
  cases xs with
  | nil => exact absurd rfl h
  | cons b r => exact decFrom_snoc _ r x
theorem dec_one (b : Int) : dec [b] = s8 b := rfl

/-- What is told of a number's own bytes is the number: the bytes are more than enough. -/
theorem dec_putI (k : Nat) : ∀ n : Int, width n ≤ k → I64 n → dec (putI n) = n := by
  induction k with
  | zero => intro n h; have := width_bd n; omega
  | succ k ih =>
    intro n h hb
    by_cases h1 : -128 ≤ n ∧ n ≤ 127
    · rw [putI_one h1, dec_one]; unfold s8; split <;> omega
    · have hs := width_step h1 hb
      have hb2 : I64 (n / 256) := by unfold I64 at hb ⊢; omega
      rw [putI_step h1 hb, dec_snoc _ _ (fun e => by have := putI_length (n / 256); have := width_bd (n / 256); rw [e] at *; simp at *; omega), ih _ (by omega) hb2]
      omega
theorem dec_put {n : Int} (hb : I64 n) : dec (putI n) = n := dec_putI 8 n (width_bd n).2 hb
theorem putI_inj {n m : Int} (hn : I64 n) (hm : I64 m) (h : putI n = putI m) : n = m := by rw [← dec_put hn, ← dec_put hm, h]

/-! Which bodies are numbers'. -/
def Bytes (xs : List Int) : Prop := ∀ x ∈ xs, 0 ≤ x ∧ x ≤ 255
/-- The first nine bits are not all alike. -/
def Least : List Int → Prop
  | b :: c :: _ => ¬ ((b = 0 ∧ c < 128) ∨ (b = 255 ∧ 128 ≤ c))
  | _ => True
def shut (k : Nat) : Int := 128 * 256 ^ (k - 1)
theorem dec_range : ∀ (k : Nat) (xs : List Int), xs.length = k + 1 → Bytes xs → -(128 * 256 ^ k) ≤ dec xs ∧ dec xs < 128 * 256 ^ k := by
  intro k
  induction k with
  | zero =>
    intro xs hl hb
    match xs, hl with
    | [b], _ =>
      have := hb b (by simp)
      rw [dec_one]; unfold s8; split <;> omega
  | succ k ih =>
    intro xs hl hb
    have hne : xs ≠ [] := by intro e; rw [e] at hl; simp at hl
    have he := (List.dropLast_concat_getLast hne).symm
    have h1 : xs.dropLast.length = k + 1 := by rw [List.length_dropLast]; omega
    have h2 := ih xs.dropLast h1 (fun x hx => hb x (List.dropLast_subset _ hx))
    have h3 := hb (xs.getLast hne) (List.getLast_mem hne)
    have hne2 : xs.dropLast ≠ [] := by intro e; rw [e] at h1; simp at h1
    rw [he, dec_snoc _ _ hne2, Int.pow_succ]
    generalize (256 : Int) ^ k = p at *
    omega
theorem width_shut {n : Int} {k : Nat} (hk : k ≤ 6) (h : -(128 * 256 ^ k) ≤ n ∧ n < 128 * 256 ^ k) : width n ≤ k + 1 := by
  unfold width
  have : k = 0 ∨ k = 1 ∨ k = 2 ∨ k = 3 ∨ k = 4 ∨ k = 5 ∨ k = 6 := by omega
  rcases this with rfl | rfl | rfl | rfl | rfl | rfl | rfl <;> simp at h <;> repeat (split; · omega)
  all_goals omega
theorem enc_dec : ∀ (k : Nat) (xs : List Int), xs.length = k + 1 → Bytes xs → enc (k + 1) (dec xs) = xs := by
  intro k
  induction k with
  | zero =>
    intro xs hl hb
    match xs, hl with
    | [b], _ =>
      have := hb b (by simp)
      rw [dec_one]; simp only [enc, List.nil_append]; unfold s8
      split
      · rw [Int.emod_eq_of_lt (by omega) (by omega)]
      · have : (b - 256) % 256 = b := by omega
        rw [this]
  | succ k ih =>
    intro xs hl hb
    have hne : xs ≠ [] := by intro e; rw [e] at hl; simp at hl
    have he := (List.dropLast_concat_getLast hne)
    have h1 : xs.dropLast.length = k + 1 := by rw [List.length_dropLast]; omega
    have h2 := ih xs.dropLast h1 (fun x hx => hb x (List.dropLast_subset _ hx))
    have h3 := hb (xs.getLast hne) (List.getLast_mem hne)
    have hne2 : xs.dropLast ≠ [] := by intro e; rw [e] at h1; simp at h1
    have hd : dec xs = dec xs.dropLast * 256 + xs.getLast hne := by
      have := dec_snoc xs.dropLast (xs.getLast hne) hne2
      rwa [he] at this
    rw [enc, hd]
    have e1 : (dec xs.dropLast * 256 + xs.getLast hne) / 256 = dec xs.dropLast := by omega
    have e2 : (dec xs.dropLast * 256 + xs.getLast hne) % 256 = xs.getLast hne := by omega
    rw [e1, e2, h2, he]

theorem dec_i64 {xs : List Int} (h : xs.length ≤ 8) (hb : Bytes xs) : I64 (dec xs) := by
  cases hl : xs.length with
  | zero => rw [List.eq_nil_of_length_eq_zero hl]; exact ⟨by show (-9223372036854775808 : Int) ≤ 0; decide, by show (0 : Int) ≤ 9223372036854775807; decide⟩
  | succ k =>
    have := dec_range k xs hl hb
    have hk : k = 0 ∨ k = 1 ∨ k = 2 ∨ k = 3 ∨ k = 4 ∨ k = 5 ∨ k = 6 ∨ k = 7 := by omega
    unfold I64
    rcases hk with rfl | rfl | rfl | rfl | rfl | rfl | rfl | rfl <;> simp at this <;> omega

theorem decFrom_mono (r : List Int) (hb : Bytes r) : ∀ a : Int, a * 256 ^ r.length ≤ decFrom a r ∧ decFrom a r < (a + 1) * 256 ^ r.length := by
  induction r with
  | nil => intro a; simp [decFrom]; omega
  | cons x r ih =>
    intro a
    have hx := hb x (by simp)
    have h := ih (fun y hy => hb y (by simp [hy])) (a * 256 + x)
    have e : decFrom a (x :: r) = decFrom (a * 256 + x) r := rfl
    rw [e, List.length_cons, Int.pow_succ]
    have hp : (0 : Int) < 256 ^ r.length := Int.pow_pos (by decide)
    generalize (256 : Int) ^ r.length = p at *
    constructor
    · refine Int.le_trans ?_ h.1
      rw [Int.add_mul, Int.mul_assoc, Int.mul_comm 256 p]
      have := Int.mul_nonneg hx.1 (Int.le_of_lt hp)
      omega
    · refine Int.lt_of_lt_of_le h.2 ?_
      have e2 : (a + 1) * (p * 256) = (a * 256 + 256) * p := by rw [Int.mul_comm p 256, ← Int.mul_assoc, Int.add_mul]; simp
      rw [e2]
      exact Int.mul_le_mul_of_nonneg_right (by omega) (Int.le_of_lt hp)

theorem width_least {xs : List Int} (h1 : 1 ≤ xs.length) (h : xs.length ≤ 8) (hb : Bytes xs) : width (dec xs) = xs.length ↔ Least xs := by
  match xs, h1 with
  | [b], _ =>
    have := hb b (by simp)
    rw [dec_one]
    have : width (s8 b) = 1 := width_one (by unfold s8; split <;> omega)
    rw [this]
    simp [Least]
  | b :: c :: r, _ =>
    have hbb := hb b (by simp)
    have hcc := hb c (by simp)
    have hr := decFrom_mono r (fun y hy => hb y (by simp [hy])) (s8 b * 256 + c)
    have hd : dec (b :: c :: r) = decFrom (s8 b * 256 + c) r := rfl
    rw [hd]
    generalize decFrom (s8 b * 256 + c) r = n at *
    have hk : r.length = 0 ∨ r.length = 1 ∨ r.length = 2 ∨ r.length = 3 ∨ r.length = 4 ∨ r.length = 5 ∨ r.length = 6 := by simp at h; omega
    have key : (-128 ≤ s8 b * 256 + c ∧ s8 b * 256 + c ≤ 127) ↔ ((b = 0 ∧ c < 128) ∨ (b = 255 ∧ 128 ≤ c)) := by unfold s8; split <;> omega
    have hs : -128 ≤ s8 b ∧ s8 b ≤ 127 := by unfold s8; split <;> omega
    simp only [Least, ← key, List.length_cons]
    generalize hv : s8 b * 256 + c = v at *
    clear key hd hb h
    unfold width
    rcases hk with e | e | e | e | e | e | e <;> rw [e] at hr ⊢ <;> simp only [Int.reducePow] at hr <;> repeat' (split)
    all_goals omega

/-- A body is a number's just if it has one byte to eight and is the least one; then the number is what it tells. -/
theorem putI_dec {xs : List Int} (h1 : 1 ≤ xs.length) (h : xs.length ≤ 8) (hb : Bytes xs) (hl : Least xs) : putI (dec xs) = xs := by
  obtain ⟨k, hk⟩ : ∃ k, xs.length = k + 1 := ⟨xs.length - 1, by omega⟩
  unfold putI
  rw [(width_least h1 h hb).2 hl, hk]
  exact enc_dec k xs hk hb
theorem putI_least {n : Int} (hn : I64 n) : Least (putI n) := by
  have h1 := width_bd n
  have h2 := putI_length n
  refine (width_least (by omega) (by omega) (putI_bytes n)).1 ?_
  rw [dec_put hn, h2]
end Go.Proofs.Ytcjjhjflijhijaa.intm
