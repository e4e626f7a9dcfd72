/- What the law of back and forth needs. -/
import Derived.Test.YthcancakkkjpaaaGreatDoorSa
import Derived.Test.YthcancakkkjpaaaGreatDoorRr
namespace Go.Proofs.YthcancakkkjpaaaGreatDoor.nmc
open Go.RowKit Go.Proofs.YthcancakkkjpaaaGreatDoor.tlvc Go.Proofs.YthcancakkkjpaaaGreatDoor.tlvd Go.Proofs.YthcancakkkjpaaaGreatDoor.ndc Go.Proofs.YthcancakkkjpaaaGreatDoor.txc Go.Proofs.YthcancakkkjpaaaGreatDoor.txm Go.Proofs.YthcancakkkjpaaaGreatDoor.intc Go.Proofs.YthcancakkkjpaaaGreatDoor.intm
set_option linter.unusedVariables false
theorem NPost0.anyS {S : Nat → Prop} {w : World} {r : Option Nd} {e : Ending} {w' : World} (h : NPost0 S w r e w') : Below w.heap.size w w' ∧ ∃ t A la ca K lk ck er, e = .returned (.tuple #[.agg #[.int .u8 t, .slice A la ca, .slice K lk ck], .int .i64 er]) ∧ er = codeN r ∧ NdC S w' (r.getD zn) (.int .u8 t) (.slice A la ca) (.slice K lk ck) := by
  obtain ⟨hb, h⟩ := h
  refine ⟨hb, ?_⟩
  cases r with
  | none => exact ⟨_, _, _, _, _, _, _, _, h, rfl, ndC_leaf (by omega) (Nat.le_refl _) (Nat.zero_le _) (Bys.nil_ _ _) (fun h => absurd h (by omega))⟩
  | some n =>
    obtain ⟨t, A, la, ca, K, lk, ck, e, hn⟩ := h
    exact ⟨t, A, la, ca, K, lk, ck, _, e, rfl, hn⟩
def codeL (r : Option (List At)) : Int := if r.isSome = true then 0 else 91
def codeP (r : Option Pr) : Int := if r.isSome = true then 0 else 91
theorem GetPost.any {w : World} {r : Option (List At)} {e : Ending} {w' : World} (h : GetPost w r e w') : Below w.heap.size w w' ∧ ∃ A l c er, e = .returned (.tuple #[.slice A l c, .int .i64 er]) ∧ er = codeL r ∧ (r.getD []).length = l ∧ l ≤ c ∧ c ≤ maxLen ∧ Lst atE (fun _ => True) w' A (r.getD []) := by
  obtain ⟨hb, h⟩ := h
  refine ⟨hb, ?_⟩
  cases r with
  | none => exact ⟨_, _, _, _, h, rfl, rfl, Nat.le_refl _, Nat.zero_le _, Lst.nil _ _ _⟩
  | some n =>
    obtain ⟨A, c, e, h1, h2, h3⟩ := h
    exact ⟨A, _, c, _, e, rfl, rfl, h1, h2, h3⟩
theorem GetPPost.any {w : World} {r : Option Pr} {e : Ending} {w' : World} (h : GetPPost w r e w') : Below w.heap.size w w' ∧ ∃ s A l c er, e = .returned (.tuple #[.agg #[.string s, .slice A l c], .int .i64 er]) ∧ er = codeP r ∧ PrC (fun _ => True) w' (r.getD ⟨⟨#[]⟩, []⟩) (.string s) (.slice A l c) := by
  obtain ⟨hb, h⟩ := h
  refine ⟨hb, ?_⟩
  cases r with
  | none => exact ⟨_, _, _, _, _, h, rfl, none, 0, rfl, rfl, Nat.le_refl _, Nat.zero_le _, Lst.nil _ _ _, Nat.zero_le _⟩
  | some p =>
    obtain ⟨s, A, l, c, e, h1⟩ := h
    exact ⟨s, A, l, c, _, e, rfl, h1⟩
theorem getN_of {l : List At} {m : Nd} (h : nameF l = some m) : getN m = some l := by
  unfold nameF at h
  split at h
  · rename_i hr
    cases h
    exact getN_name hr
  · cases h
theorem getP_of {p : Pr} {m : Nd} (h : princF p = some m) : getP m = some p := by
  unfold princF at h
  split at h
  · rename_i hr
    cases h
    exact getP_princ hr
  · cases h
theorem nameF_back {l : List At} {m : Nd} (h : getN m = some l) : nameF l = some m := by
  obtain ⟨h1, h2⟩ := getN_some h
  unfold nameF
  rw [if_pos h1, h2]
theorem princF_back {p : Pr} {m : Nd} (h : getP m = some p) : princF p = some m := by
  obtain ⟨h1, h2⟩ := getP_some h
  unfold princF
  rw [if_pos h1, h2]
end Go.Proofs.YthcancakkkjpaaaGreatDoor.nmc
