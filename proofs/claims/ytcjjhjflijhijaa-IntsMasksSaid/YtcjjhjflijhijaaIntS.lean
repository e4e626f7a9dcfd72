/- Plain facts on the document's reading of an object's body: each way out of its loops. -/
import Derived.Test.YtcjjhjflijhijaaIntQ
namespace Go.Proofs.Ytcjjhjflijhijaa.intm
set_option linter.unusedVariables false

/-- Of the bytes xs the first at are the numbers ns. -/
structure Read (xs : List Int) (at_ : Nat) (ns : List Int) : Prop where
  le : at_ ≤ xs.length
  told : body ns = xs.take at_
  arcs : ∀ n ∈ ns, Arc n
  few : ns.length ≤ 15

theorem read_zero (xs : List Int) : Read xs 0 [] := ⟨Nat.zero_le _, rfl, fun _ h => by simp at h, by simp⟩
theorem read_rest {xs : List Int} {a : Nat} {ns l : List Int} (h : Read xs a ns) (hl : objB l = true) (he : encO l = xs) : ∃ rs, nums l = ns ++ rs ∧ body rs = xs.drop a ∧ ∀ r ∈ rs, Arc r := by
  have ha := nums_arc hl
  have hx : body (nums l) = body ns ++ xs.drop a := by rw [h.told, List.take_append_drop]; exact he
  obtain ⟨rs, h1, h2⟩ := body_pre ns (nums l) _ h.arcs ha hx
  exact ⟨rs, h1, h2, fun r hr => ha r (by rw [h1]; simp [hr])⟩
theorem read_next {xs : List Int} {a : Nat} {ns l : List Int} (h : Read xs a ns) (hlt : a < xs.length) (hl : objB l = true) (he : encO l = xs) : ∃ m rs, nums l = ns ++ m :: rs ∧ xs.drop a = digs m ++ body rs ∧ Arc m := by
  obtain ⟨rs, h1, h2, h3⟩ := read_rest h hl he
  cases rs with
  | nil =>
    exfalso
    have := congrArg List.length h2
    rw [List.length_drop] at this
    simp [body] at this; omega
  | cons m rs => exact ⟨m, rs, h1, by rw [← h2]; rfl, h3 m (by simp)⟩

variable {xs ns : List Int} {a : Nat}
theorem none_head (h : Read xs a ns) (hlt : a < xs.length) (h128 : xs.getD a 0 = 128) : oidF xs = ([], 22) := by
  refine oidF_none fun l hl he => ?_
  obtain ⟨m, rs, h1, h2, h3⟩ := read_next h hlt hl he
  unfold Arc at h3
  have hh : (xs.drop a).head? = some 128 := by
    rw [List.head?_drop, List.getElem?_eq_getElem hlt, ← h128]
    simp [List.getD_eq_getElem?_getD, List.getElem?_eq_getElem hlt]
  rw [h2] at hh
  unfold digs at hh
  rw [List.append_assoc] at hh
  by_cases h0 : hi (m / 128) = []
  · rw [h0] at hh; simp at hh; omega
  · rw [head_app h0] at hh
    exact hi_head (by omega) (by omega) hh
theorem none_great {j : Nat} (h : Read xs a ns) (hlt : a < xs.length) (hp : ∀ x ∈ (xs.drop a).take j, 128 ≤ x) (hv : 268435455 < val ((xs.drop a).take j)) : oidF xs = ([], 22) := by
  refine oidF_none fun l hl he => ?_
  obtain ⟨m, rs, h1, h2, h3⟩ := read_next h hlt hl he
  unfold Arc at h3
  have e : digs m ++ body rs = (xs.drop a).take j ++ (xs.drop a).drop j := by rw [List.take_append_drop, h2]
  obtain ⟨us, hu⟩ := hi_cut e hp
  have h5 := val_hi (n := m / 128) (by omega) (by omega)
  have h6 := val_mono ((xs.drop a).take j) us
  rw [← hu, h5] at h6
  omega
theorem none_end (h : Read xs a ns) (hlt : a < xs.length) (hp : ∀ x ∈ xs.drop a, 128 ≤ x) : oidF xs = ([], 22) := by
  refine oidF_none fun l hl he => ?_
  obtain ⟨m, rs, h1, h2, h3⟩ := read_next h hlt hl he
  unfold Arc at h3
  have := hp (m % 128) (by rw [h2]; simp [digs])
  omega
theorem none_last {j : Nat} {d : Int} (h : Read xs a ns) (hlt : a < xs.length) (hp : ∀ x ∈ (xs.drop a).take j, 128 ≤ x) (hd : d < 128) (ht : (xs.drop a).take (j + 1) = (xs.drop a).take j ++ [d])
    (hv : 268435455 < val ((xs.drop a).take (j + 1))) : oidF xs = ([], 22) := by
  refine oidF_none fun l hl he => ?_
  obtain ⟨m, rs, h1, h2, h3⟩ := read_next h hlt hl he
  have e : digs m ++ body rs = (xs.drop a).take j ++ d :: (xs.drop a).drop (j + 1) := by
    have := List.take_append_drop (j + 1) (xs.drop a)
    rw [ht, List.append_assoc] at this
    rw [← h2]; exact this.symm
  obtain ⟨h4, _⟩ := digs_cut e hp hd
  rw [ht, ← h4, val_digs h3] at hv
  unfold Arc at h3
  omega
theorem none_many (h : Read xs a ns) (hlt : a < xs.length) (hn : ns.length = 15) : oidF xs = ([], 22) := by
  refine oidF_none fun l hl he => ?_
  obtain ⟨m, rs, h1, h2, h3⟩ := read_next h hlt hl he
  have h4 := (objB_iff l).1 hl
  have h5 := nums_length l h4.1
  rw [h1] at h5
  simp at h5
  omega
theorem none_empty (h : xs.length = 0) : oidF xs = ([], 22) := by
  refine oidF_none fun l hl he => ?_
  rw [List.eq_nil_of_length_eq_zero h] at he
  unfold encO nums at he
  rw [body_cons] at he
  simp [digs] at he
/-- One number more. -/
theorem read_step {j : Nat} {d : Int} (h : Read xs a ns) (hf : ∀ x ∈ xs, 0 ≤ x ∧ x ≤ 255) (hj : a + j < xs.length) (hp : ∀ x ∈ (xs.drop a).take j, 128 ≤ x) (hd : d < 128) (ht : (xs.drop a).take (j + 1) = (xs.drop a).take j ++ [d])
    (hh : xs.getD a 0 ≠ 128) (hv : val ((xs.drop a).take (j + 1)) ≤ 268435455) (hn : ns.length < 15) : Read xs (a + j + 1) (ns ++ [val ((xs.drop a).take (j + 1))]) := by
  have hfd : ∀ x ∈ xs.drop a, 0 ≤ x ∧ x ≤ 255 := fun x hx => hf x (List.mem_of_mem_drop hx)
  have hd0 : 0 ≤ d := (hfd d (List.mem_of_mem_take (show d ∈ (xs.drop a).take (j + 1) by rw [ht]; simp))).1
  have hvn := val_nonneg ((xs.drop a).take j)
  have hv' := hv
  rw [ht, val_snoc] at hv'
  have hhead : ((xs.drop a).take j).head? ≠ some 128 := by
    cases j with
    | zero => simp
    | succ j =>
      rw [List.head?_take, if_neg (by omega), List.head?_drop, List.getElem?_eq_getElem (by omega)]
      intro e
      apply hh
      simp only [Option.some.injEq] at e
      simp [List.getD_eq_getElem?_getD, List.getElem?_eq_getElem (show a < xs.length by omega), e]
  have hps := (hi_val _ ((xs.drop a).take j) rfl (fun x hx => ⟨hp x hx, (hfd x (List.mem_of_mem_take hx)).2⟩) hhead (by omega)).1
  have hdig : digs (val ((xs.drop a).take (j + 1))) = (xs.drop a).take (j + 1) := by
    rw [ht, val_snoc]
    unfold digs
    have e1 : (val ((xs.drop a).take j) * 128 + d % 128) / 128 = val ((xs.drop a).take j) := by omega
    have e2 : (val ((xs.drop a).take j) * 128 + d % 128) % 128 = d := by omega
    rw [e1, e2, ← hps]
  refine ⟨by omega, ?_, ?_, by simp; omega⟩
  · rw [body_append, h.told]
    have : body [val ((xs.drop a).take (j + 1))] = (xs.drop a).take (j + 1) := by rw [body_cons, body_nil, List.append_nil, hdig]
    have e : xs.take (a + (j + 1)) = xs.take a ++ (xs.drop a).take (j + 1) := by rw [List.take_add]
    rw [this, Nat.add_assoc, e]
  · intro n hn
    rcases List.mem_append.1 hn with h' | h'
    · exact h.arcs n h'
    · simp at h'; rw [h']; exact ⟨val_nonneg _, hv⟩
theorem unnum_snoc {ns : List Int} {n : Int} : unnum (ns ++ [n]) = if ns = [] then arcs2 n else unnum ns ++ [n] := by
  cases ns with
  | nil => simp [unnum]
  | cons m r => simp [unnum]
theorem unnum_length {ns : List Int} : (unnum ns).length = if ns = [] then 0 else ns.length + 1 := by
  cases ns with
  | nil => rfl
  | cons m r =>
    have e : (arcs2 m).length = 2 := by unfold arcs2; split <;> rfl
    have e2 : unnum (m :: r) = arcs2 m ++ r := rfl
    rw [e2, List.length_append, e, if_neg (by simp), List.length_cons]
    omega
theorem read_done (h : Read xs xs.length ns) (hne : ns ≠ []) : oidF xs = (unnum ns, 0) := by
  obtain ⟨h1, h2⟩ := obj_unnum hne h.few h.arcs
  have e : encO (unnum ns) = xs := by
    unfold encO
    rw [h2, h.told, List.take_of_length_le (Nat.le_refl _)]
  rw [← e]
  exact oidF_enc h1
theorem unnum_i64 {ns : List Int} (h : ∀ n ∈ ns, Arc n) : ∀ a ∈ unnum ns, I64 a := by
  cases ns with
  | nil => intro a ha; simp [unnum] at ha
  | cons n r =>
    have hn := h n (by simp)
    intro a ha
    have ha : a ∈ arcs2 n ++ r := ha
    rcases List.mem_append.1 ha with h' | h'
    · refine arcs2_i64 ?_ a h'
      unfold Arc at hn; unfold I64; omega
    · have := h a (by simp [h'])
      unfold Arc at this; unfold I64; omega
end Go.Proofs.Ytcjjhjflijhijaa.intm
