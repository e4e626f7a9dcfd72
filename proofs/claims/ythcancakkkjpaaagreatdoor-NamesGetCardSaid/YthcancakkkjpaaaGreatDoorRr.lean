/- What the laws of names share. -/
import Derived.Test.YthcancakkkjpaaaGreatDoorRq
import Derived.Test.YthcancakkkjpaaaGreatDoorNap
namespace Go.Proofs.YthcancakkkjpaaaGreatDoor.nmc
open Go.RowKit Go.Proofs.YthcancakkkjpaaaGreatDoor.tlvc Go.Proofs.YthcancakkkjpaaaGreatDoor.tlvd Go.Proofs.YthcancakkkjpaaaGreatDoor.ndc Go.Proofs.YthcancakkkjpaaaGreatDoor.txc Go.Proofs.YthcancakkkjpaaaGreatDoor.txm Go.Proofs.YthcancakkkjpaaaGreatDoor.intc Go.Proofs.YthcancakkkjpaaaGreatDoor.intm
set_option linter.unusedVariables false
def zn : Nd := .mk 0 [] []
def codeN (r : Option Nd) : Int := if r.isSome = true then 0 else 91
theorem NPost0.any {S : Nat → Prop} {w : World} {r : Option Nd} {e : Ending} {w' : World} (h : NPost0 S w r e w') : Below w.heap.size w w' ∧ ∃ t A la ca K lk ck er, e = .returned (.tuple #[.agg #[.int .u8 t, .slice A la ca, .slice K lk ck], .int .i64 er]) ∧ er = codeN r ∧ NdC (fun _ => True) w' (r.getD zn) (.int .u8 t) (.slice A la ca) (.slice K lk ck) := by
  obtain ⟨hb, h⟩ := h
  refine ⟨hb, ?_⟩
  cases r with
  | none => exact ⟨_, _, _, _, _, _, _, _, h, rfl, ndC_leaf (by omega) (Nat.le_refl _) (Nat.zero_le _) (Bys.nil_ _ _) (fun h => absurd h (by omega))⟩
  | some n =>
    obtain ⟨t, A, la, ca, K, lk, ck, e, hn⟩ := h
    exact ⟨t, A, la, ca, K, lk, ck, _, e, rfl, NdC.mono (fun _ _ => trivial) _ _ _ _ hn⟩
/-- A node in its box. -/
theorem box_nd {W0 W : World} (h : Below W0.heap.size W0 W) {g : Nat} {a b c : Value} {T : TypeId} {fr : Nat × Nat} (hq : W0.heap[g]? = some (.cells #[a, b, c] T fr)) : W.cell? ⟨g, 0, none⟩ = some a ∧ W.cell? ⟨g, 1, none⟩ = some b ∧ W.cell? ⟨g, 2, none⟩ = some c := by
  have hq := (h.block g (Array.getElem?_eq_some_iff.1 hq).1).trans hq
  exact ⟨(Lib.cell_of_heap hq _).trans rfl, (Lib.cell_of_heap hq _).trans rfl, (Lib.cell_of_heap hq _).trans rfl⟩
end Go.Proofs.YthcancakkkjpaaaGreatDoor.nmc
