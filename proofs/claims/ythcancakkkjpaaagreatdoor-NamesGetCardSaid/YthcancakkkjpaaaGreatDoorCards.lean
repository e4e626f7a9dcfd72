/-
  DERIVED. GIVEN WITH THE SEED: THE CARDS: each row of YthcancakkkjpaaaGreatDoorRows.lean that lists a variable, with what it lists TIED to the program's text (the seventh form; the later family's looks); each row that meets fmt, with fmt's text TOLD by the authors' own Lean function (tested against real Go, not proved from fmt's source: count such statements apart). THE CARD IS WHAT COUNTS. Prove the row's statement (the work); the ties are given (YthcancakkkjpaaaGreatDoorTie.lean); close each card by the builder's one call (the guide's Derived/Test/ToyasCard.lean, 'card_holds'). Laid BY PROGRAM, IN A SANDBOX (cutbox-door.mjs). By AI agents, Wed Nov 11 2026. No macro, syntax, notation, axiom, sorry.
-/
import Derived.Test.YthcancakkkjpaaaGreatDoorRows
import GoSem.ClaimSeven
namespace Go.Proofs.YthcancakkkjpaaaGreatDoor
namespace Rows

/-- THE TIED CARD OF 'warderlaw09.NamesGet'. -/
def namesGetCard : Claim7 := { stood := { row := namesGetRow, standIns := [], harness := (true, "ebc298f8e177cd5bd048780a87a46635f292f3d83f19d087418e4a10bcaf2ae6"), looks := true }, kinds := [], alts := [], laidByText := true, laidKinds := [.data, .pinned], laidTests := true, laidLooks := .later }
def NamesGetCardSaid : Prop := Claim7.holds Tryz.pinned (.plain (OpenSpec.ofChange namesGetSpec)) namesGetCard

/-- THE SECOND FORM's CARD OF 'warderlaw09.NamesGet'. -/
def namesGetUptoCard : Claim7 := { stood := { row := namesGetUptoRow, standIns := [], harness := (true, "ebc298f8e177cd5bd048780a87a46635f292f3d83f19d087418e4a10bcaf2ae6"), looks := true }, kinds := [], alts := [], laidByText := true, laidKinds := [.data, .pinned], laidTests := true, laidLooks := .later }
def NamesGetUptoCardSaid : Prop := Claim7.holds Tryz.pinned (.plain (OpenSpec.upto namesGetSpec)) namesGetUptoCard
end Rows
end Go.Proofs.YthcancakkkjpaaaGreatDoor
