/- What the program's own reading of an object's body gives, and when that is the object: plain facts. -/
import Derived.Test.YtcjjhjflijhijaaIntP
namespace Go.Proofs.Ytcjjhjflijhijaa.intm
open Go.RowKit
set_option linter.unusedVariables false

/-- One byte more: the arcs so far, and the number that is being read. -/
def stepA (s : List Int × Int) (x : Int) : List Int × Int :=
  if 128 ≤ x then (s.1, wrap64 (s.2 * 128) + x % 128)
  else if s.1 = [] then (arcs2 (wrap64 (s.2 * 128) + x % 128), 0) else (s.1 ++ [wrap64 (s.2 * 128) + x % 128], 0)
def runA (xs : List Int) : List Int × Int := xs.foldl stepA ([], 0)
def arcsF (xs : List Int) : List Int := (runA xs).1
theorem runA_snoc (xs : List Int) (x : Int) : runA (xs ++ [x]) = stepA (runA xs) x := by simp [runA]
theorem wrap_i64 (n : Int) : I64 (wrap64 n) := by unfold I64 wrap64; omega
theorem wrap_low (n x : Int) : I64 (wrap64 (n * 128) + x % 128) ∧ wrap64 (n * 128) % 128 = 0 := by unfold I64 wrap64; omega
theorem arcs2_i64 {n : Int} (h : I64 n) : ∀ a ∈ arcs2 n, I64 a := by
  unfold I64 at h
  have h1 := Int.mul_tdiv_add_tmod n 40
  have h2 : n.tmod 40 < 40 := by have := Int.tmod_lt_of_pos n (show (0 : Int) < 40 by decide); omega
  have h3 : -40 < n.tmod 40 := by have := Int.lt_tmod_of_pos n (show (0 : Int) < 40 by decide); omega
  intro a ha
  unfold arcs2 at ha
  unfold I64
  split at ha
  · simp at ha
    rcases ha with rfl | rfl <;> omega
  · simp at ha
    rcases ha with rfl | rfl <;> omega
theorem runA_i64 : ∀ (k : Nat) (xs : List Int), xs.length = k → (∀ a ∈ (runA xs).1, I64 a) ∧ I64 (runA xs).2 := by
  intro k
  induction k with
  | zero => intro xs h; rw [List.eq_nil_of_length_eq_zero h]; exact ⟨fun a h => by simp [runA] at h, by show I64 0; unfold I64; omega⟩
  | succ k ih =>
    intro xs hl
    have hne : xs ≠ [] := by intro e; rw [e] at hl; simp at hl
    have he := List.dropLast_concat_getLast hne
    have h := ih xs.dropLast (by rw [List.length_dropLast]; omega)
    rw [← he, runA_snoc]
    have hw := wrap_low (runA xs.dropLast).2 (xs.getLast hne)
    unfold stepA
    split
    · exact ⟨h.1, hw.1⟩
    · split
      · exact ⟨arcs2_i64 hw.1, by show I64 0; unfold I64; omega⟩
      · refine ⟨fun a ha => ?_, by show I64 0; unfold I64; omega⟩
        rcases List.mem_append.1 ha with h' | h'
        · exact h.1 a h'
        · simp at h'; rw [h']; exact hw.1
theorem arcsF_i64 (xs : List Int) : ∀ a ∈ arcsF xs, I64 a := (runA_i64 _ xs rfl).1
theorem runA_length : ∀ (k : Nat) (xs : List Int), xs.length = k → (runA xs).1.length ≤ k + 1 := by
  intro k
  induction k with
  | zero => intro xs h; rw [List.eq_nil_of_length_eq_zero h]; simp [runA]
  | succ k ih =>
    intro xs hl
    have hne : xs ≠ [] := by intro e; rw [e] at hl; simp at hl
    have he := List.dropLast_concat_getLast hne
    have h := ih xs.dropLast (by rw [List.length_dropLast]; omega)
    rw [← he, runA_snoc]
    unfold stepA
    split
    · simp only []; omega
    · split
      · unfold arcs2; split <;> simp
      · simp; omega

theorem fold_hiF (k : Nat) (hk : k ≤ 4) : ∀ n : Int, 0 ≤ n → n < 128 ^ k → ∀ a, (hiF k n).foldl stepA (a, 0) = (a, n) := by
  induction k with
  | zero => intro n h0 h a; have : n = 0 := by simp at h; omega
            subst this; rfl
  | succ k ih =>
    intro n h0 h a
    have hb : n < 268435456 := by
      have hk2 : k = 0 ∨ k = 1 ∨ k = 2 ∨ k = 3 := by omega
      rcases hk2 with rfl | rfl | rfl | rfl <;> simp at h <;> omega
    have e1 : hiF (k + 1) n = if n < 1 then [] else hiF k (n / 128) ++ [n % 128 + 128] := rfl
    rw [e1]
    split
    · have : n = 0 := by omega
      subst this; rfl
    · rw [List.foldl_append, ih (by omega) (n / 128) (by omega) (by rw [Int.pow_succ] at h; omega) a]
      simp only [List.foldl_cons, List.foldl_nil, stepA]
      rw [if_pos (by omega)]
      have e : wrap64 (n / 128 * 128) = n / 128 * 128 := by unfold wrap64; omega
      rw [e]
      congr 1
      omega
theorem fold_digs {m : Int} (h : Arc m) (a : List Int) : (digs m).foldl stepA (a, 0) = (if a = [] then arcs2 m else a ++ [m], 0) := by
  unfold Arc at h
  unfold digs
  rw [List.foldl_append, show hi (m / 128) = hiF 4 (m / 128) from rfl, fold_hiF 4 (Nat.le_refl _) _ (by omega) (by omega)]
  simp only [List.foldl_cons, List.foldl_nil, stepA]
  have e : wrap64 (m / 128 * 128) + m % 128 % 128 = m := by unfold wrap64; omega
  rw [if_neg (by omega), e]
  split <;> rfl
theorem fold_body : ∀ (ns : List Int), (∀ n ∈ ns, Arc n) → ∀ a, a ≠ [] → (body ns).foldl stepA (a, 0) = (a ++ ns, 0)
  | [], _, a, _ => by simp [body]
  | n :: ns, h, a, ha => by
    rw [body_cons, List.foldl_append, fold_digs (h n (by simp)), if_neg ha, fold_body ns (fun x hx => h x (by simp [hx])) _ (by simp)]
    simp
theorem arcs2_ne (n : Int) : arcs2 n ≠ [] := by unfold arcs2; split <;> simp
theorem arcsF_encO {l : List Int} (h : objB l = true) : arcsF (encO l) = l := by
  have hn := nums_arc h
  have hu := unnum_nums h
  unfold arcsF runA encO
  match hns : nums l with
  | [] => simp [nums] at hns
  | n :: r =>
    rw [hns] at hn hu
    rw [body_cons, List.foldl_append, fold_digs (hn n (by simp)), if_pos rfl, fold_body r (fun x hx => hn x (by simp [hx])) _ (arcs2_ne n)]
    exact hu
theorem encO_length {l : List Int} (h : objB l = true) : (encO l).length ≤ 60 := by
  have h1 := body_length (nums l) (nums_arc h)
  have h2 := (objB_iff l).1 h
  have h3 := nums_length l h2.1
  unfold encO
  omega
theorem encO_bytes (l : List Int) : ∀ x ∈ encO l, 0 ≤ x ∧ x ≤ 255 := body_bytes _

/-- What OID answers: the arcs and the error. -/
def oidF (xs : List Int) : List Int × Int := if objB (arcsF (xs.take 60)) = true ∧ encO (arcsF (xs.take 60)) = xs then (arcsF (xs.take 60), 0) else ([], 22)
theorem oidF_enc {l : List Int} (h : objB l = true) : oidF (encO l) = (l, 0) := by
  unfold oidF
  rw [List.take_of_length_le (encO_length h), arcsF_encO h, if_pos ⟨h, rfl⟩]
theorem oidF_none {xs : List Int} (h : ∀ l, objB l = true → encO l ≠ xs) : oidF xs = ([], 22) := by
  unfold oidF
  rw [if_neg]
  rintro ⟨h1, h2⟩
  exact h _ h1 h2
/-- An answer is right just if its body is what was asked. -/
theorem oidF_ok {xs l : List Int} (h : oidF xs = (l, 0)) : objB l = true ∧ encO l = xs := by
  unfold oidF at h
  split at h
  · rename_i hc
    simp only [Prod.mk.injEq, and_true] at h
    rw [← h]; exact hc
  · simp at h
theorem oidF_two (xs : List Int) : (oidF xs).2 = 0 ∨ oidF xs = ([], 22) := by
  unfold oidF
  split
  · exact .inl rfl
  · exact .inr rfl
end Go.Proofs.Ytcjjhjflijhijaa.intm
