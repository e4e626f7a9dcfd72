/- The program's asPut, Get and GetPrinc. The program's GetPrin -/
import Derived.Test.YtdcpggodlggjjaaGreatDoorYg
import Derived.Test.YtdcpggodlggjjaaGreatDoorYf
import Derived.Deep.RegionHeld3
import Derived.Lib.QuietBelow
import Derived.BigQuiet
set_option linter.unusedVariables false
set_option linter.unusedSimpArgs false
namespace Go.Proofs.YtdcpggodlggjjaaGreatDoor.nmc
open Go.RowKit tlvc tlvd ndc txc txm intc intm
def GetPost (w : World) (r : Option (List At)) (e : Ending) (w' : World) : Prop :=
 Below w.heap.size w w' ∧ match r with
  | none => e = .returned (.tuple #[.slice none 0 0, .int .i64 91])
  | some l => ∃ A c, e = .returned (.tuple #[.slice A l.length c, .int .i64 0]) ∧ l.length ≤ c ∧ c ≤ maxLen ∧ Lst atE (fun _ => True) w' A l
end Go.Proofs.YtdcpggodlggjjaaGreatDoor.nmc
namespace Go.Proofs.YtdcpggodlggjjaaGreatDoor.nmc
open Go.RowKit tlvc tlvd ndc txc txm intc intm
def GetPPost (w : World) (r : Option Pr) (e : Ending) (w' : World) : Prop :=
 Below w.heap.size w w' ∧ match r with
  | none => e = .returned (.tuple #[.agg #[.string ⟨#[]⟩, .slice none 0 0], .int .i64 91])
  | some p => ∃ s A l c, e = .returned (.tuple #[.agg #[.string s, .slice A l c], .int .i64 0]) ∧ PrC (fun _ => True) w' p (.string s) (.slice A l c)
theorem PrC.on {B B' : Nat → Prop} {w w' : World} {p : Pr} {c0 c1 : Value} (h : PrC B w p c0 c1) (hs : w.heap.size ≤ w'.heap.size) (hk : ∀ g, B g → g < w.heap.size → w'.heap[g]? = w.heap[g]?) (hB : ∀ g, B g → g < w.heap.size → B' g) : PrC B' w' p c0 c1 := by
 obtain ⟨A, c, h0, h1, h2, h3, h4, h5⟩ := h
 exact ⟨A, c, h0, h1, h2, h3, h4.on hs hk hB, h5⟩
end Go.Proofs.YtdcpggodlggjjaaGreatDoor.nmc
namespace Go.Proofs.YtdcpggodlggjjaaGreatDoor.nmc
open Go.RowKit tlvc tlvd ndc txc txm intc intm
end Go.Proofs.YtdcpggodlggjjaaGreatDoor.nmc
namespace Go.Proofs.YtdcpggodlggjjaaGreatDoor.nmc
open Go.RowKit tlvc tlvd ndc txc txm intc intm
theorem NPost0.anyS {S : Nat → Prop} {w : World} {r : Option Nd} {e : Ending} {w' : World} (h : NPost0 S w r e w') : Below w.heap.size w w' ∧ ∃ t A la ca K lk ck er, e = .returned (.tuple #[.agg #[.int .u8 t, .slice A la ca, .slice K lk ck], .int .i64 er]) ∧ er = codeN r ∧ NdC S w' (r.getD zn) (.int .u8 t) (.slice A la ca) (.slice K lk ck) := by
 obtain ⟨hb, h⟩ := h
 refine ⟨hb, ?_⟩
 cases r with
 | none => exact ⟨_, _, _, _, _, _, _, _, h, rfl, ndC_leaf (by omega) (lr_ _) (Nat.zero_le _) (Bys.nil_ _ _) (fun h => absurd h (by omega))⟩
 | some n =>
  obtain ⟨t, A, la, ca, K, lk, ck, e, hn⟩ := h
  exact ⟨t, A, la, ca, K, lk, ck, _, e, rfl, hn⟩
def codeL (r : Option (List At)) : Int := if r.isSome = true then 0 else 91
def codeP (r : Option Pr) : Int := if r.isSome = true then 0 else 91
theorem GetPost.any {w : World} {r : Option (List At)} {e : Ending} {w' : World} (h : GetPost w r e w') : Below w.heap.size w w' ∧ ∃ A l c er, e = .returned (.tuple #[.slice A l c, .int .i64 er]) ∧ er = codeL r ∧ (r.getD []).length = l ∧ l ≤ c ∧ c ≤ maxLen ∧ Lst atE (fun _ => True) w' A (r.getD []) := by
 obtain ⟨hb, h⟩ := h
 refine ⟨hb, ?_⟩
 cases r with
 | none => exact ⟨_, _, _, _, h, rfl, rfl, lr_ _, Nat.zero_le _, Lst.nil _ _ _⟩
 | some n =>
  obtain ⟨A, c, e, h1, h2, h3⟩ := h
  exact ⟨A, _, c, _, e, rfl, rfl, h1, h2, h3⟩
theorem GetPPost.any {w : World} {r : Option Pr} {e : Ending} {w' : World} (h : GetPPost w r e w') : Below w.heap.size w w' ∧ ∃ s A l c er, e = .returned (.tuple #[.agg #[.string s, .slice A l c], .int .i64 er]) ∧ er = codeP r ∧ PrC (fun _ => True) w' (r.getD ⟨⟨#[]⟩, []⟩) (.string s) (.slice A l c) := by
 obtain ⟨hb, h⟩ := h
 refine ⟨hb, ?_⟩
 cases r with
 | none => exact ⟨_, _, _, _, _, h, rfl, none, 0, rfl, rfl, lr_ _, Nat.zero_le _, Lst.nil _ _ _, Nat.zero_le _⟩
 | some p =>
  obtain ⟨s, A, l, c, e, h1⟩ := h
  exact ⟨s, A, l, c, _, e, rfl, h1⟩
end Go.Proofs.YtdcpggodlggjjaaGreatDoor.nmc
