/- A table of terms: plain. Nothing here names the program. -/
import Derived.Test.YtfmdmahlljbbmaaGreatDoorTc
namespace Go.Proofs.YtfmdmahlljbbmaaGreatDoor.vtc
open Go.RowKit Go.Proofs.YtfmdmahlljbbmaaGreatDoor.tlvc Go.Proofs.YtfmdmahlljbbmaaGreatDoor.tmc
set_option linter.unusedVariables false
/-- Are two terms alike? -/
def alikeB (x t : Tm) : Bool := decide (ordT x t = 0)
theorem alike_iff {x t : Tm} : alikeB x t = true ↔ x = t := by
  unfold alikeB
  rw [decide_eq_true_iff]
  exact ⟨ordT_zero, fun h => by rw [h]; exact ordT_refl _⟩
/-- The first place of a term. -/
def findV (t : Tm) : List Tm → Option Nat
  | [] => none
  | x :: L => if alikeB x t = true then some 0 else (findV t L).map (· + 1)
theorem findV_some : ∀ {L : List Tm} {t : Tm} {i : Nat}, findV t L = some i → L[i]? = some t ∧ ∀ j, j < i → L[j]? ≠ some t
  | [], _, _, h => by cases h
  | x :: L, t, i, h => by
    unfold findV at h
    split at h
    · rename_i hx
      cases h
      exact ⟨by rw [alike_iff.1 hx]; rfl, fun j hj => by omega⟩
    · rename_i hx
      obtain ⟨k, hk, rfl⟩ := Option.map_eq_some_iff.1 h
      obtain ⟨h1, h2⟩ := findV_some hk
      refine ⟨by rw [List.getElem?_cons_succ]; exact h1, fun j hj => ?_⟩
      cases j with
      | zero => intro e; exact hx (alike_iff.2 (Option.some.inj e))
      | succ j => rw [List.getElem?_cons_succ]; exact h2 j (by omega)
theorem findV_none : ∀ {L : List Tm} {t : Tm}, findV t L = none ↔ t ∉ L
  | [], t => by simp [findV]
  | x :: L, t => by
    unfold findV
    split
    · rename_i hx
      rw [alike_iff.1 hx]; simp
    · rename_i hx
      rw [Option.map_eq_none_iff, findV_none, List.mem_cons, not_or]
      exact ⟨fun h => ⟨fun e => hx (alike_iff.2 e.symm), h⟩, fun h => h.2⟩
theorem findV_mem {L : List Tm} {t : Tm} (h : t ∈ L) : ∃ i, findV t L = some i := by
  cases e : findV t L with
  | none => exact absurd h (findV_none.1 e)
  | some i => exact ⟨i, rfl⟩
/-- Each term once. -/
def Once (L : List Tm) : Prop := ∀ (i j : Nat) (t : Tm), L[i]? = some t → L[j]? = some t → i = j
theorem findV_once {L : List Tm} (h : Once L) {t : Tm} {i : Nat} : findV t L = some i ↔ L[i]? = some t := by
  constructor
  · exact fun e => (findV_some e).1
  · intro e
    obtain ⟨j, hj⟩ := findV_mem (List.mem_of_getElem? e)
    rw [hj, h j i t (findV_some hj).1 e]
mutual
/-- A term put in, its kids ahead of it. -/
def putV : Tm → List Tm → List Tm
  | .mk o m d ks, L => if (findV (.mk o m d ks) L).isSome = true then L else putsV ks L ++ [.mk o m d ks]
def putsV : List Tm → List Tm → List Tm
  | [], L => L
  | k :: ks, L => putsV ks (putV k L)
end
theorem putsV_nil (L : List Tm) : putsV [] L = L := by unfold putsV; rfl
theorem putsV_cons (k : Tm) (ks L : List Tm) : putsV (k :: ks) L = putsV ks (putV k L) := by conv => lhs; unfold putsV
theorem putV_had {t : Tm} {L : List Tm} (h : t ∈ L) : putV t L = L := by
  obtain ⟨o, m, d, ks⟩ := t
  obtain ⟨i, hi⟩ := findV_mem h
  unfold putV
  rw [hi]
  rfl
theorem putV_new {o m : Int} {d : List Int} {ks L : List Tm} (h : Tm.mk o m d ks ∉ L) : putV (.mk o m d ks) L = putsV ks L ++ [.mk o m d ks] := by
  unfold putV
  rw [findV_none.2 h]
  rfl
theorem szT_pos (t : Tm) : 1 ≤ szT t := by obtain ⟨o, m, d, ks⟩ := t; unfold szT; omega
theorem szT_kids (o m : Int) (d : List Int) (ks : List Tm) : szT (.mk o m d ks) = szTs ks + 1 := by conv => lhs; unfold szT
theorem szTs_two (k : Tm) (ks : List Tm) : szTs (k :: ks) = szT k + szTs ks := by conv => lhs; unfold szTs
/-- What a put does. -/
structure Put1 (L L' : List Tm) (n : Nat) : Prop where
  pre : L <+: L'
  len : L'.length ≤ L.length + n
  size : ∀ x ∈ L', x ∈ L ∨ szT x ≤ n
theorem Put1.refl (L : List Tm) (n : Nat) : Put1 L L n := ⟨List.prefix_refl _, by omega, fun x h => .inl h⟩
theorem Put1.then_ {L L' L'' : List Tm} {n m : Nat} (h : Put1 L L' n) (k : Put1 L' L'' m) : Put1 L L'' (n + m) :=
  ⟨h.pre.trans k.pre, by have := h.len; have := k.len; omega, fun x hx => by
    rcases k.size x hx with h1 | h1
    · rcases h.size x h1 with h2 | h2
      · exact .inl h2
      · exact .inr (by omega)
    · exact .inr (by omega)⟩
theorem puts_one : ∀ (N : Nat), (∀ t L, szT t ≤ N → Put1 L (putV t L) (szT t)) ∧ (∀ ks L, szTs ks ≤ N → Put1 L (putsV ks L) (szTs ks)) := by
  intro N
  induction N with
  | zero =>
    refine ⟨fun t L h => by have := szT_pos t; omega, fun ks L h => ?_⟩
    cases ks with
    | nil => rw [putsV_nil]; exact Put1.refl _ _
    | cons k ks => rw [szTs_two] at h; have := szT_pos k; omega
  | succ N ih =>
    have h1 : ∀ t L, szT t ≤ N + 1 → Put1 L (putV t L) (szT t) := fun t L h => by
      obtain ⟨o, m, d, ks⟩ := t
      rw [szT_kids] at h ⊢
      by_cases hm : Tm.mk o m d ks ∈ L
      · rw [putV_had hm]; exact Put1.refl _ _
      · rw [putV_new hm]
        have hk := ih.2 ks L (by omega)
        refine ⟨hk.pre.trans (List.prefix_append _ _), by rw [List.length_append]; have := hk.len; simp; omega, fun x hx => ?_⟩
        rcases List.mem_append.1 hx with hx | hx
        · rcases hk.size x hx with h2 | h2
          · exact .inl h2
          · exact .inr (by omega)
        · rw [List.mem_singleton] at hx
          subst hx
          exact .inr (by rw [szT_kids]; omega)
    refine ⟨h1, fun ks => ?_⟩
    induction ks with
    | nil => intro L _; rw [putsV_nil]; exact Put1.refl _ _
    | cons k ks ihk =>
      intro L h
      rw [szTs_two] at h ⊢
      rw [putsV_cons]
      exact (h1 k L (by omega)).then_ (ihk _ (by omega))
theorem put_one (t : Tm) (L : List Tm) : Put1 L (putV t L) (szT t) := (puts_one _).1 t L (Nat.le_refl _)
theorem puts_ones (ks L : List Tm) : Put1 L (putsV ks L) (szTs ks) := (puts_one _).2 ks L (Nat.le_refl _)
theorem prefix_get {L L' : List Tm} (h : L <+: L') {i : Nat} {t : Tm} (e : L[i]? = some t) : L'[i]? = some t := by
  obtain ⟨r, rfl⟩ := h
  rw [List.getElem?_append_left (List.getElem?_eq_some_iff.1 e).1]; exact e
theorem prefix_mem {L L' : List Tm} (h : L <+: L') {t : Tm} (e : t ∈ L) : t ∈ L' := by
  obtain ⟨r, rfl⟩ := h
  exact List.mem_append_left _ e
theorem put_has (t : Tm) (L : List Tm) : t ∈ putV t L := by
  by_cases h : t ∈ L
  · rw [putV_had h]; exact h
  · obtain ⟨o, m, d, ks⟩ := t
    rw [putV_new h]; simp
theorem puts_has : ∀ (ks L : List Tm), ∀ k ∈ ks, k ∈ putsV ks L
  | [], _, k, h => by simp at h
  | x :: ks, L, k, h => by
    rw [putsV_cons]
    rcases List.mem_cons.1 h with rfl | h
    · exact prefix_mem (puts_ones ks _).pre (put_has _ L)
    · exact puts_has ks _ k h
/-- A term that is new is its own list's last. -/
theorem put_last {t : Tm} {L : List Tm} (h : t ∉ L) : (putV t L)[(putV t L).length - 1]? = some t ∧ L.length < (putV t L).length := by
  obtain ⟨o, m, d, ks⟩ := t
  rw [putV_new h]
  have := (puts_ones ks L).pre.length_le
  constructor
  · rw [List.length_append, List.getElem?_append_right (by simp)]; simp
  · rw [List.length_append]; simp; omega
theorem once_snoc {L : List Tm} (h : Once L) {t : Tm} (ht : t ∉ L) : Once (L ++ [t]) := by
  have key : ∀ i x, (L ++ [t])[i]? = some x → (i < L.length ∧ L[i]? = some x) ∨ (i = L.length ∧ x = t) := fun i x e => by
    rcases Nat.lt_or_ge i L.length with hl | hl
    · rw [List.getElem?_append_left hl] at e; exact .inl ⟨hl, e⟩
    · rw [List.getElem?_append_right hl] at e
      have h0 : i - L.length = 0 := by
        rcases Nat.eq_zero_or_pos (i - L.length) with h | h
        · exact h
        · rw [List.getElem?_eq_none (by simp; omega)] at e; cases e
      rw [h0] at e
      exact .inr ⟨by omega, (Option.some.inj e).symm⟩
  intro i j x h1 h2
  rcases key i x h1 with ⟨_, a⟩ | ⟨a, rfl⟩
  · rcases key j x h2 with ⟨_, b⟩ | ⟨b, rfl⟩
    · exact h i j x a b
    · exact absurd (List.mem_of_getElem? a) ht
  · rcases key j x h2 with ⟨_, b⟩ | ⟨b, _⟩
    · exact absurd (List.mem_of_getElem? b) ht
    · omega
/-- Whose kids all stand ahead of it. -/
def Closed (L : List Tm) : Prop := ∀ (i : Nat) (o m : Int) (d : List Int) (ks : List Tm), L[i]? = some (Tm.mk o m d ks) → ∀ k ∈ ks, ∃ j, j < i ∧ L[j]? = some k
theorem put_keeps : ∀ (N : Nat), (∀ t L, szT t ≤ N → Once L → Closed L → Once (putV t L) ∧ Closed (putV t L)) ∧ (∀ ks L, szTs ks ≤ N → Once L → Closed L → Once (putsV ks L) ∧ Closed (putsV ks L)) := by
  intro N
  induction N with
  | zero =>
    refine ⟨fun t L h => by have := szT_pos t; omega, fun ks L h h1 h2 => ?_⟩
    cases ks with
    | nil => rw [putsV_nil]; exact ⟨h1, h2⟩
    | cons k ks => rw [szTs_two] at h; have := szT_pos k; omega
  | succ N ih =>
    have h1 : ∀ t L, szT t ≤ N + 1 → Once L → Closed L → Once (putV t L) ∧ Closed (putV t L) := fun t L h ho hc => by
      obtain ⟨o, m, d, ks⟩ := t
      rw [szT_kids] at h
      by_cases hm : Tm.mk o m d ks ∈ L
      · rw [putV_had hm]; exact ⟨ho, hc⟩
      · rw [putV_new hm]
        obtain ⟨a, b⟩ := ih.2 ks L (by omega) ho hc
        have hn : Tm.mk o m d ks ∉ putsV ks L := fun e => by
          rcases (puts_ones ks L).size _ e with h2 | h2
          · exact hm h2
          · rw [szT_kids] at h2; omega
        refine ⟨once_snoc a hn, fun i o' m' d' ks' e k hk => ?_⟩
        rcases Nat.lt_or_ge i (putsV ks L).length with hl | hl
        · rw [List.getElem?_append_left hl] at e
          obtain ⟨j, hj, ej⟩ := b i o' m' d' ks' e k hk
          exact ⟨j, hj, by rw [List.getElem?_append_left (by omega)]; exact ej⟩
        · have hi : i = (putsV ks L).length := by
            have := (List.getElem?_eq_some_iff.1 e).1
            rw [List.length_append] at this
            simp at this
            omega
          subst hi
          rw [List.getElem?_append_right (Nat.le_refl _), Nat.sub_self] at e
          cases e
          obtain ⟨j, hj⟩ := List.getElem?_of_mem (puts_has ks L k hk)
          have hjl := (List.getElem?_eq_some_iff.1 hj).1
          exact ⟨j, hjl, by rw [List.getElem?_append_left hjl]; exact hj⟩
    refine ⟨h1, fun ks => ?_⟩
    induction ks with
    | nil => intro L _ ho hc; rw [putsV_nil]; exact ⟨ho, hc⟩
    | cons k ks ihk =>
      intro L h ho hc
      rw [szTs_two] at h
      rw [putsV_cons]
      obtain ⟨a, b⟩ := h1 k L (by omega) ho hc
      exact ihk _ (by omega) a b
theorem put_once {t : Tm} {L : List Tm} (h : Once L) (hc : Closed L) : Once (putV t L) ∧ Closed (putV t L) := (put_keeps _).1 t L (Nat.le_refl _) h hc
/-- What Intern answers, and the table behind it. -/
def internV (t : Tm) (L : List Tm) : Int × Int × List Tm :=
  if rightF t 0 = true then
    match findV t L with
    | some i => ((i : Int), 0, L)
    | none => if L.length + szT t ≤ 4096 then (((putV t L).length : Int) - 1, 0, putV t L) else (-1, 2, L)
  else (-1, 51, L)
end Go.Proofs.YtfmdmahlljbbmaaGreatDoor.vtc
