/- Plain facts on the bodies of objects: digits of seven bits. Nothing here names the program. -/
import Derived.WalkKit
import Derived.Test.YtcjjhjflijhijaaIntM
namespace Go.Proofs.Ytcjjhjflijhijaa.intm
open Go.RowKit
set_option linter.unusedVariables false

theorem head_app {xs ys : List Int} (h : xs ≠ []) : (xs ++ ys).head? = xs.head? := by
  cases xs with
  | nil => exact absurd rfl h
  | cons x r => rfl
/-- The digits of n, of all but a last one: 128 more of each. -/
def hiF : Nat → Int → List Int
  | 0, _ => []
  | k + 1, n => if n < 1 then [] else hiF k (n / 128) ++ [n % 128 + 128]
theorem hiF_zero (k : Nat) : hiF k 0 = [] := by cases k <;> simp [hiF]
theorem hiF_more (k : Nat) : ∀ n : Int, 0 ≤ n → n < 128 ^ k → hiF (k + 1) n = hiF k n := by
  induction k with
  | zero => intro n h0 h; have : n = 0 := by simp at h; omega
            subst this; rfl
  | succ k ih =>
    intro n h0 h
    have e1 : hiF (k + 1 + 1) n = if n < 1 then [] else hiF (k + 1) (n / 128) ++ [n % 128 + 128] := rfl
    have e2 : hiF (k + 1) n = if n < 1 then [] else hiF k (n / 128) ++ [n % 128 + 128] := rfl
    rw [e1, e2, ih (n / 128) (by omega) (by rw [Int.pow_succ] at h; omega)]
def hi (n : Int) : List Int := hiF 4 n
theorem hi_zero : hi 0 = [] := rfl
theorem hi_step {n : Int} (h1 : 1 ≤ n) (h : n < 268435456) : hi n = hi (n / 128) ++ [n % 128 + 128] := by
  unfold hi
  rw [hiF, if_neg (by omega), ← hiF_more 3 (n / 128) (by omega) (by omega)]
theorem hiF_ge (k : Nat) : ∀ n : Int, ∀ x ∈ hiF k n, 128 ≤ x ∧ x ≤ 255 := by
  induction k with
  | zero => intro n x hx; simp [hiF] at hx
  | succ k ih =>
    intro n x hx
    rw [hiF] at hx
    split at hx
    · simp at hx
    · rcases List.mem_append.1 hx with h | h
      · exact ih _ x h
      · simp at h; omega
theorem hi_ge {n : Int} : ∀ x ∈ hi n, 128 ≤ x ∧ x ≤ 255 := hiF_ge 4 n
theorem hiF_length (k : Nat) : ∀ n : Int, (hiF k n).length ≤ k := by
  induction k with
  | zero => intro n; simp [hiF]
  | succ k ih =>
    intro n
    rw [hiF]
    split
    · simp
    · have := ih (n / 128); simp; omega
theorem hi_head {n : Int} (h0 : 0 ≤ n) (h : n < 268435456) : (hi n).head? ≠ some 128 := by
  have key : ∀ k, ∀ n : Int, 0 ≤ n → n < 128 ^ k → (hiF k n).head? ≠ some 128 := by
    intro k
    induction k with
    | zero => intro n _ _; simp [hiF]
    | succ k ih =>
      intro n h0 h
      rw [hiF]
      split
      · simp
      · by_cases h2 : n / 128 < 1
        · have e : hiF k (n / 128) = [] := by cases k with
            | zero => rfl
            | succ k => rw [hiF, if_pos h2]
          rw [e]; simp; omega
        · have hne : hiF k (n / 128) ≠ [] := by
            cases k with
            | zero => simp at h; omega
            | succ k => rw [hiF, if_neg h2]; simp
          rw [head_app hne]
          exact ih _ (by omega) (by rw [Int.pow_succ] at h; omega)
  exact key 4 n h0 (by omega)
/-- A number's digits. -/
def digs (n : Int) : List Int := hi (n / 128) ++ [n % 128]
def Arc (n : Int) : Prop := 0 ≤ n ∧ n ≤ 268435455
theorem digs_bytes (n : Int) : ∀ x ∈ digs n, 0 ≤ x ∧ x ≤ 255 := by
  intro x hx
  rcases List.mem_append.1 hx with h | h
  · have := hi_ge x h; omega
  · simp at h; omega
theorem digs_length {n : Int} (h : Arc n) : 1 ≤ (digs n).length ∧ (digs n).length ≤ 4 := by
  unfold Arc at h
  have e : hi (n / 128) = hiF 3 (n / 128) := hiF_more 3 _ (by omega) (by omega)
  have := hiF_length 3 (n / 128)
  unfold digs
  rw [e]; simp; omega
theorem digs_ne (n : Int) : digs n ≠ [] := by simp [digs]

/-! What digits tell. -/
def val (xs : List Int) : Int := xs.foldl (fun a x => a * 128 + x % 128) 0
theorem val_snoc (xs : List Int) (x : Int) : val (xs ++ [x]) = val xs * 128 + x % 128 := by simp [val]
theorem val_hiF (k : Nat) : ∀ n : Int, 0 ≤ n → n < 128 ^ k → val (hiF k n) = n := by
  induction k with
  | zero => intro n h0 h; simp at h; simp [hiF, val]; omega
  | succ k ih =>
    intro n h0 h
    rw [hiF]
    split
    · simp [val]; omega
    · rw [val_snoc, ih (n / 128) (by omega) (by rw [Int.pow_succ] at h; omega)]
      omega
theorem val_hi {n : Int} (h0 : 0 ≤ n) (h : n < 268435456) : val (hi n) = n := val_hiF 4 n h0 h
theorem val_digs {n : Int} (h : Arc n) : val (digs n) = n := by
  unfold Arc at h
  unfold digs
  rw [val_snoc, val_hi (by omega) (by omega)]
  omega
theorem val_from (ys : List Int) : ∀ a : Int, 0 ≤ a → a ≤ ys.foldl (fun a x => a * 128 + x % 128) a := by
  induction ys with
  | nil => intro a _; simp
  | cons y r ih =>
    intro a h
    have := ih (a * 128 + y % 128) (by omega)
    simp only [List.foldl_cons]
    omega
theorem val_nonneg (xs : List Int) : 0 ≤ val xs := val_from xs 0 (by omega)
theorem val_mono (xs ys : List Int) : val xs ≤ val (xs ++ ys) := by
  unfold val
  rw [List.foldl_append]
  exact val_from ys _ (val_nonneg xs)

/-- Digits that are not the last ones, the first one not nought: those of their number. -/
theorem hi_val (k : Nat) : ∀ xs : List Int, xs.length = k → (∀ x ∈ xs, 128 ≤ x ∧ x ≤ 255) → xs.head? ≠ some 128 → val xs < 268435456 → xs = hi (val xs) ∧ (xs ≠ [] → 1 ≤ val xs) := by
  induction k with
  | zero => intro xs hl _ _ _; rw [List.eq_nil_of_length_eq_zero hl]; exact ⟨rfl, fun h => absurd rfl h⟩
  | succ k ih =>
    intro xs hl hx hh hv
    have hne : xs ≠ [] := by intro e; rw [e] at hl; simp at hl
    have he := List.dropLast_concat_getLast hne
    have hc := hx _ (List.getLast_mem hne)
    obtain ⟨ys, hys⟩ : ∃ ys, xs.dropLast = ys := ⟨_, rfl⟩
    obtain ⟨c, hcc⟩ : ∃ c, xs.getLast hne = c := ⟨_, rfl⟩
    rw [hys, hcc] at he
    rw [hcc] at hc
    have hyx : ∀ y ∈ ys, 128 ≤ y ∧ y ≤ 255 := fun y hy => hx y (List.dropLast_subset _ (by rw [hys]; exact hy))
    have hyl : ys.length = k := by rw [← hys, List.length_dropLast]; omega
    rw [← he] at hh hv ⊢
    rw [val_snoc] at hv ⊢
    have hn := val_nonneg ys
    by_cases h0 : ys = []
    · subst h0
      have hc0 : c ≠ 128 := by simpa using hh
      have e : val [] = 0 := rfl
      rw [e]
      refine ⟨?_, fun _ => by omega⟩
      rw [hi_step (by omega) (by omega)]
      have e2 : (0 * 128 + c % 128) / 128 = 0 := by omega
      rw [e2, hi_zero]
      simp; omega
    · have := ih ys hyl hyx (by rwa [head_app h0] at hh) (by omega)
      have h1 := this.2 h0
      refine ⟨?_, fun _ => by omega⟩
      rw [hi_step (by omega) (by omega)]
      have e1 : (val ys * 128 + c % 128) / 128 = val ys := by omega
      have e2 : (val ys * 128 + c % 128) % 128 + 128 = c := by omega
      rw [e1, e2, ← this.1]

/-- Of two rows of digits with more behind, neither is the other's beginning. -/
theorem hi_cut {m : Int} {zs ps qs : List Int} (h : digs m ++ zs = ps ++ qs) (hp : ∀ x ∈ ps, 128 ≤ x) : ∃ us, hi (m / 128) = ps ++ us := by
  unfold digs at h
  rw [List.append_assoc] at h
  rcases List.append_eq_append_iff.1 h with ⟨as, h1, h2⟩ | ⟨bs, h1, h2⟩
  · cases as with
    | nil => exact ⟨[], by simp at h1; rw [h1]; simp⟩
    | cons a r =>
      simp only [List.cons_append, List.nil_append, List.cons.injEq] at h2
      have := hp a (by rw [h1]; simp)
      omega
  · exact ⟨bs, h1⟩
theorem digs_cut {m : Int} {zs ps qs : List Int} {d : Int} (h : digs m ++ zs = ps ++ d :: qs) (hp : ∀ x ∈ ps, 128 ≤ x) (hd : d < 128) : digs m = ps ++ [d] ∧ zs = qs := by
  obtain ⟨us, hu⟩ := hi_cut h hp
  cases us with
  | nil =>
    rw [List.append_nil] at hu
    unfold digs at h ⊢
    rw [hu, List.append_assoc] at h
    have := List.append_cancel_left h
    simp only [List.cons_append, List.nil_append, List.cons.injEq] at this
    rw [hu, this.1]
    exact ⟨rfl, this.2⟩
  | cons u r =>
    unfold digs at h
    rw [hu] at h
    simp only [List.append_assoc, List.cons_append] at h
    have := List.append_cancel_left h
    simp only [List.cons.injEq] at this
    have h2 := hi_ge u (by rw [hu]; simp)
    omega
theorem digs_pre {m n : Int} {ys zs : List Int} (hm : Arc m) (hn : Arc n) (h : digs m ++ ys = digs n ++ zs) : m = n ∧ ys = zs := by
  have h' : digs m ++ ys = hi (n / 128) ++ (n % 128) :: zs := by rw [h]; simp [digs]
  obtain ⟨h1, h2⟩ := digs_cut h' (fun x hx => (hi_ge x hx).1) (by omega)
  refine ⟨?_, h2⟩
  have e : digs m = digs n := h1
  rw [← val_digs hm, ← val_digs hn, e]

def body (ns : List Int) : List Int := ns.flatMap digs
theorem body_nil : body [] = [] := rfl
theorem body_cons (n : Int) (ns : List Int) : body (n :: ns) = digs n ++ body ns := rfl
theorem body_append (ns ms : List Int) : body (ns ++ ms) = body ns ++ body ms := List.flatMap_append
theorem body_bytes (ns : List Int) : ∀ x ∈ body ns, 0 ≤ x ∧ x ≤ 255 := by
  intro x hx
  obtain ⟨n, _, h⟩ := List.mem_flatMap.1 hx
  exact digs_bytes n x h
theorem body_pre : ∀ (ns ms : List Int) (rest : List Int), (∀ n ∈ ns, Arc n) → (∀ m ∈ ms, Arc m) → body ms = body ns ++ rest → ∃ rs, ms = ns ++ rs ∧ body rs = rest
  | [], ms, rest, _, _, h => ⟨ms, rfl, h⟩
  | n :: ns, [], rest, _, _, h => by
    have := congrArg List.length h
    rw [body_cons, body_nil] at this
    have hl := digs_ne n
    have : (digs n).length = 0 := by simp at this; omega
    exact absurd (List.eq_nil_of_length_eq_zero this) hl
  | n :: ns, m :: ms, rest, hn, hm, h => by
    rw [body_cons, body_cons, List.append_assoc] at h
    obtain ⟨rfl, h2⟩ := digs_pre (hm m (by simp)) (hn n (by simp)) h
    obtain ⟨rs, h3, h4⟩ := body_pre ns ms rest (fun x hx => hn x (by simp [hx])) (fun x hx => hm x (by simp [hx])) h2
    exact ⟨rs, by rw [h3]; rfl, h4⟩
theorem body_inj {ns ms : List Int} (hn : ∀ n ∈ ns, Arc n) (hm : ∀ m ∈ ms, Arc m) (h : body ms = body ns) : ms = ns := by
  obtain ⟨rs, h1, h2⟩ := body_pre ns ms [] hn hm (by simpa using h)
  cases rs with
  | nil => simpa using h1
  | cons r rs =>
    rw [body_cons] at h2
    simp [digs] at h2
theorem body_length : ∀ ns : List Int, (∀ n ∈ ns, Arc n) → (body ns).length ≤ 4 * ns.length
  | [], _ => by simp [body]
  | n :: ns, h => by
    have h1 := digs_length (h n (by simp))
    have h2 := body_length ns fun x hx => h x (by simp [hx])
    rw [body_cons, List.length_append, List.length_cons]
    omega

/-! Objects. -/
/-- Are these arcs an object? -/
def objB (l : List Int) : Bool :=
  decide (2 ≤ l.length ∧ l.length ≤ 16 ∧ (∀ a ∈ l, 0 ≤ a ∧ a ≤ 268435455) ∧ l.getD 0 0 ≤ 2 ∧ (l.getD 0 0 = 2 ∨ l.getD 1 0 < 40) ∧ 40 * l.getD 0 0 + l.getD 1 0 ≤ 268435455)
theorem objB_iff (l : List Int) : objB l = true ↔ (2 ≤ l.length ∧ l.length ≤ 16 ∧ (∀ a ∈ l, 0 ≤ a ∧ a ≤ 268435455) ∧ l.getD 0 0 ≤ 2 ∧ (l.getD 0 0 = 2 ∨ l.getD 1 0 < 40) ∧ 40 * l.getD 0 0 + l.getD 1 0 ≤ 268435455) := decide_eq_true_iff
/-- The numbers whose digits tell an object. -/
def nums (l : List Int) : List Int := (40 * l.getD 0 0 + l.getD 1 0) :: l.drop 2
def encO (l : List Int) : List Int := body (nums l)
def putO (l : List Int) : List Int × Int := if objB l = true then (encO l, 0) else ([], 22)
/-- The first two arcs of a number. -/
def arcs2 (n : Int) : List Int := if n.tdiv 40 ≤ 2 then [n.tdiv 40, n - 40 * n.tdiv 40] else [2, n - 80]
def unnum : List Int → List Int
  | [] => []
  | n :: r => arcs2 n ++ r
theorem arcs2_pos {n : Int} (h : 0 ≤ n) : arcs2 n = if n / 40 ≤ 2 then [n / 40, n - 40 * (n / 40)] else [2, n - 80] := by
  unfold arcs2; rw [Int.tdiv_eq_ediv_of_nonneg h]
theorem nums_arc {l : List Int} (h : objB l = true) : ∀ n ∈ nums l, Arc n := by
  have h := (objB_iff l).1 h
  intro n hn
  match l, h with
  | a :: b :: r, ⟨_, _, h3, h4, h5, h6⟩ =>
    simp only [nums, List.getD_cons_zero, List.getD_cons_succ, List.drop_succ_cons, List.drop_zero, List.mem_cons] at hn h4 h5 h6
    have ha := h3 a (by simp)
    have hb := h3 b (by simp)
    rcases hn with rfl | hn
    · exact ⟨by omega, h6⟩
    · exact h3 n (by simp [hn])
theorem unnum_nums {l : List Int} (h : objB l = true) : unnum (nums l) = l := by
  have h := (objB_iff l).1 h
  match l, h with
  | a :: b :: r, ⟨_, _, h3, h4, h5, h6⟩ =>
    have ha := h3 a (by simp)
    have hb := h3 b (by simp)
    simp only [nums, unnum, List.getD_cons_zero, List.getD_cons_succ, List.drop_succ_cons, List.drop_zero] at h4 h5 h6 ⊢
    rw [arcs2_pos (by omega)]
    split
    · have e : (40 * a + b) / 40 = a := by omega
      rw [e]; simp; omega
    · have e : a = 2 := by omega
      subst e; simp; omega
theorem obj_unnum {ns : List Int} (hne : ns ≠ []) (hl : ns.length ≤ 15) (h : ∀ n ∈ ns, Arc n) : objB (unnum ns) = true ∧ nums (unnum ns) = ns := by
  match ns, hne with
  | n :: r, _ =>
    have hn := h n (by simp)
    unfold Arc at hn
    have hr : ∀ a ∈ r, 0 ≤ a ∧ a ≤ 268435455 := fun a ha => h a (by simp [ha])
    simp only [List.length_cons] at hl
    rw [objB_iff]
    have e : unnum (n :: r) = arcs2 n ++ r := rfl
    rw [e, arcs2_pos hn.1]
    split
    · refine ⟨⟨by simp, by simp; omega, ?_, ?_, ?_, ?_⟩, ?_⟩
      · intro a ha
        simp only [List.cons_append, List.nil_append, List.mem_cons] at ha
        rcases ha with rfl | rfl | ha
        · omega
        · omega
        · exact hr a ha
      · simp; omega
      · simp; omega
      · simp; omega
      · simp [nums]; omega
    · refine ⟨⟨by simp, by simp; omega, ?_, ?_, ?_, ?_⟩, ?_⟩
      · intro a ha
        simp only [List.cons_append, List.nil_append, List.mem_cons] at ha
        rcases ha with rfl | rfl | ha
        · omega
        · omega
        · exact hr a ha
      · simp
      · simp
      · simp; omega
      · simp [nums]; omega
theorem nums_length (l : List Int) (h : 2 ≤ l.length) : (nums l).length + 1 = l.length := by
  match l, h with
  | a :: b :: r, _ => simp [nums]
theorem encO_inj {l m : List Int} (hl : objB l = true) (hm : objB m = true) (h : encO l = encO m) : l = m := by
  have := body_inj (nums_arc hm) (nums_arc hl) h
  rw [← unnum_nums hl, ← unnum_nums hm, this]
end Go.Proofs.Ytcjjhjflijhijaa.intm
