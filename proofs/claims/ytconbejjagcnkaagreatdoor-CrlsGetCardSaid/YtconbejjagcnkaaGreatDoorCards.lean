/-
  DERIVED. GIVEN WITH THE SEED: THE CARDS: each row of YtconbejjagcnkaaGreatDoorRows.lean that lists a variable, with what it lists TIED to the program's text (the seventh form; the later family's looks); each row that meets fmt, with fmt's text TOLD by the authors' own Lean function (tested against real Go, not proved from fmt's source: count such statements apart). THE CARD IS WHAT COUNTS. Prove the row's statement (the work); the ties are given (YtconbejjagcnkaaGreatDoorTie.lean); close each card by the builder's one call (the guide's Derived/Test/ToyasCard.lean, 'card_holds'). Laid BY PROGRAM, IN A SANDBOX (cutbox-door.mjs). By AI agents, Wed Nov 11 2026. No macro, syntax, notation, axiom, sorry.
-/
import Derived.Test.YtconbejjagcnkaaGreatDoorRows
import GoSem.ClaimSeven
namespace Go.Proofs.YtconbejjagcnkaaGreatDoor
namespace Rows

/-- THE TIED CARD OF 'warderlaw12.CrlsPut'. -/
def crlsPutCard : Claim7 := { stood := { row := crlsPutRow, standIns := [], harness := (true, "0b1291af9119ea784141710e0a75aacff152de1df058fd3ad72dca32f9d80791"), looks := true }, kinds := [], alts := [], laidByText := true, laidKinds := [.data, .pinned], laidTests := true, laidLooks := .later }
def CrlsPutCardSaid : Prop := Claim7.holds Tryz.pinned (.plain (OpenSpec.ofChange crlsPutSpec)) crlsPutCard

/-- THE TIED CARD OF 'warderlaw12.CrlsGet'. -/
def crlsGetCard : Claim7 := { stood := { row := crlsGetRow, standIns := [], harness := (true, "0b1291af9119ea784141710e0a75aacff152de1df058fd3ad72dca32f9d80791"), looks := true }, kinds := [], alts := [], laidByText := true, laidKinds := [.data, .pinned], laidTests := true, laidLooks := .later }
def CrlsGetCardSaid : Prop := Claim7.holds Tryz.pinned (.plain (OpenSpec.ofChange crlsGetSpec)) crlsGetCard

/-- THE SECOND FORM's CARD OF 'warderlaw12.CrlsPut'. -/
def crlsPutUptoCard : Claim7 := { stood := { row := crlsPutUptoRow, standIns := [], harness := (true, "0b1291af9119ea784141710e0a75aacff152de1df058fd3ad72dca32f9d80791"), looks := true }, kinds := [], alts := [], laidByText := true, laidKinds := [.data, .pinned], laidTests := true, laidLooks := .later }
def CrlsPutUptoCardSaid : Prop := Claim7.holds Tryz.pinned (.plain (OpenSpec.upto crlsPutSpec)) crlsPutUptoCard

/-- THE SECOND FORM's CARD OF 'warderlaw12.CrlsGet'. -/
def crlsGetUptoCard : Claim7 := { stood := { row := crlsGetUptoRow, standIns := [], harness := (true, "0b1291af9119ea784141710e0a75aacff152de1df058fd3ad72dca32f9d80791"), looks := true }, kinds := [], alts := [], laidByText := true, laidKinds := [.data, .pinned], laidTests := true, laidLooks := .later }
def CrlsGetUptoCardSaid : Prop := Claim7.holds Tryz.pinned (.plain (OpenSpec.upto crlsGetSpec)) crlsGetUptoCard
end Rows
end Go.Proofs.YtconbejjagcnkaaGreatDoor
