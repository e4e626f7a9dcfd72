/- What is prepared is prepared already; blanks about a text. No run in this text. -/
import Derived.Test.YtomoinohfoalnaaDoorTxAE
namespace Go.Proofs.YtomoinohfoalnaaDoor.txm
open Go.Proofs.YtomoinohfoalnaaDoor.tlvc
set_option linter.unusedVariables false
set_option linter.unusedSimpArgs false
theorem great_small {r : Int} (h : kindF r = 3) : kindF (r + 32) = 0 := by
  have hg := kind3_great h
  exact kind_0 (by unfold Noth; unfold Great at hg; omega) (by unfold Blank; unfold Great at hg; omega) (by unfold Great at hg ⊢; omega)
/-- What is out stays as it is, prepared again. -/
def J4 (st : List Int × Bool) : Prop := st.1.foldl stepP ([], false) = (st.1, false) ∧ (st.2 = true → st.1 ≠ [])
theorem kind_32 : kindF 32 = 2 := by decide
theorem j4_put {o : List Int} {p : Bool} {c : Int} (h : J4 (o, p)) (hc : kindF c = 0) : J4 (o ++ (if p = true then [32] else []) ++ [c], false) := by
  obtain ⟨h1, h2⟩ := h
  simp only at h1 h2
  refine ⟨?_, by simp⟩
  simp only [List.foldl_append, h1]
  cases p
  · simp [stepP, hc]
  · have := h2 rfl
    simp [stepP, hc, kind_32, this]
theorem j4_step {st : List Int × Bool} (r : Int) (h : J4 st) : J4 (stepP st r) := by
  obtain ⟨o, p⟩ := st
  rcases kindw r with hk | hk | hk | hk
  · simpa [stepP, hk] using h
  · exact ⟨by simpa [stepP, hk] using h.1, by simp [stepP, hk]⟩
  · have := j4_put h (great_small hk)
    simpa [stepP, hk] using this
  · have := j4_put h hk
    simpa [stepP, hk] using this
theorem j4_all : ∀ (l : List Int) (st : List Int × Bool), J4 st → J4 (l.foldl stepP st)
  | [], _, h => h
  | r :: l, st, h => j4_all l _ (j4_step r h)
theorem prepR_idem (l : List Int) : prepR (prepR l) = prepR l := by
  have := (j4_all l ([], false) ⟨rfl, by simp⟩).1
  unfold prepR
  rw [this]
/-- A blank before a text, and blanks behind it, change nothing. -/
theorem prepR_about {b : Int} (hb : kindF b = 2) (l m : List Int) (hm : ∀ x ∈ m, kindF x = 2) : prepR ([b] ++ l ++ m) = prepR l := by
  have tail : ∀ (m : List Int) (st : List Int × Bool), (∀ x ∈ m, kindF x = 2) → (m.foldl stepP st).1 = st.1 := by
    intro m
    induction m with
    | nil => intro st _; rfl
    | cons x m ih =>
      intro st h
      rw [List.foldl_cons, ih _ (fun y hy => h y (List.mem_cons_of_mem _ hy))]
      have := h x List.mem_cons_self
      simp [stepP, this]
  unfold prepR
  rw [List.foldl_append, tail m _ hm, List.foldl_append]
  have e : [b].foldl stepP ([], false) = ([], false) := by simp [stepP, hb]
  rw [e]
/-- Blanks for one change nothing. -/
theorem prepR_split {b : Int} (hb : kindF b = 2) (x y : List Int) : prepR (x ++ ([b] ++ ([b] ++ ([32] ++ y)))) = prepR (x ++ ([32] ++ y)) := by
  unfold prepR
  simp only [List.foldl_append]
  obtain ⟨⟨o, p⟩, hx⟩ : ∃ st, x.foldl stepP ([], false) = st := ⟨_, rfl⟩
  rw [hx]
  have e : ∀ (q : Bool) (c : Int), kindF c = 2 → [c].foldl stepP (o, q) = (o, decide (o ≠ [])) := fun q c hc => by simp [stepP, hc]
  rw [e _ _ hb, e _ _ hb, e _ _ kind_32, e _ _ kind_32]
/-- Great ASCII letters for small ones. -/
def up1 (r : Int) : Int := if 97 ≤ r ∧ r ≤ 122 then r - 32 else r
theorem up_kind {r : Int} (h : 97 ≤ r ∧ r ≤ 122) : kindF r = 0 ∧ kindF (r - 32) = 3 :=
  ⟨kind_0 (by unfold Noth; omega) (by unfold Blank; omega) (by unfold Great; omega), kind_g (by unfold Great; omega)⟩
theorem step_up (st : List Int × Bool) (r : Int) : stepP st (up1 r) = stepP st r := by
  unfold up1
  split
  · rename_i h
    obtain ⟨a, b⟩ := up_kind h
    simp [stepP, a, b]
  · rfl
theorem prepR_up (l : List Int) : prepR (l.map up1) = prepR l := by
  have : ∀ (l : List Int) (st : List Int × Bool), (l.map up1).foldl stepP st = l.foldl stepP st := by
    intro l
    induction l with
    | nil => intro st; rfl
    | cons r l ih => intro st; rw [List.map_cons, List.foldl_cons, List.foldl_cons, step_up, ih]
  unfold prepR
  rw [this]
end Go.Proofs.YtomoinohfoalnaaDoor.txm
