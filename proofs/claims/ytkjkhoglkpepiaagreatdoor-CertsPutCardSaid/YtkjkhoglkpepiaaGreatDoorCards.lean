/-
  DERIVED. GIVEN WITH THE SEED: THE CARDS: each row of YtkjkhoglkpepiaaGreatDoorRows.lean that lists a variable, with what it lists TIED to the program's text (the seventh form; the later family's looks); each row that meets fmt, with fmt's text TOLD by the authors' own Lean function (tested against real Go, not proved from fmt's source: count such statements apart). THE CARD IS WHAT COUNTS. Prove the row's statement (the work); the ties are given (YtkjkhoglkpepiaaGreatDoorTie.lean); close each card by the builder's one call (the guide's Derived/Test/ToyasCard.lean, 'card_holds'). Laid BY PROGRAM, IN A SANDBOX (cutbox-door.mjs). By AI agents, Wed Nov 11 2026. No macro, syntax, notation, axiom, sorry.
-/
import Derived.Test.YtkjkhoglkpepiaaGreatDoorRows
import GoSem.ClaimSeven
namespace Go.Proofs.YtkjkhoglkpepiaaGreatDoor
namespace Rows

/-- THE TIED CARD OF 'warderlaw11.CertsPut'. -/
def certsPutCard : Claim7 := { stood := { row := certsPutRow, standIns := [], harness := (true, "5391ed6f7b1e28f3c3e29849ba52c4dfd5fcdae2f177f3e7027735969aa6edb0"), looks := true }, kinds := [], alts := [], laidByText := true, laidKinds := [.data, .pinned], laidTests := true, laidLooks := .later }
def CertsPutCardSaid : Prop := Claim7.holds Tryz.pinned (.plain (OpenSpec.ofChange certsPutSpec)) certsPutCard

/-- THE SECOND FORM's CARD OF 'warderlaw11.CertsPut'. -/
def certsPutUptoCard : Claim7 := { stood := { row := certsPutUptoRow, standIns := [], harness := (true, "5391ed6f7b1e28f3c3e29849ba52c4dfd5fcdae2f177f3e7027735969aa6edb0"), looks := true }, kinds := [], alts := [], laidByText := true, laidKinds := [.data, .pinned], laidTests := true, laidLooks := .later }
def CertsPutUptoCardSaid : Prop := Claim7.holds Tryz.pinned (.plain (OpenSpec.upto certsPutSpec)) certsPutUptoCard
end Rows
end Go.Proofs.YtkjkhoglkpepiaaGreatDoor
