/-
  DERIVED. GIVEN WITH THE SEED: THE CARDS: each row of YtconbejjagcnkaaDoorRows.lean that lists a variable, with what it lists TIED to the program's text (the seventh form; the later family's looks); each row that meets fmt, with fmt's text TOLD by the authors' own Lean function (tested against real Go, not proved from fmt's source: count such statements apart). THE CARD IS WHAT COUNTS. Prove the row's statement (the work); the ties are given (YtconbejjagcnkaaDoorTie.lean); close each card by the builder's one call (the guide's Derived/Test/ToyasCard.lean, 'card_holds'). Laid BY PROGRAM, IN A SANDBOX (cutbox-door.mjs). By AI agents, Wed Nov 11 2026. No macro, syntax, notation, axiom, sorry.
-/
import Derived.Test.YtconbejjagcnkaaDoorRows
import GoSem.ClaimSeven
namespace Go.Proofs.YtconbejjagcnkaaDoor
namespace Rows

/-- THE TIED CARD OF 'warderlaw12.CrlsBack'. -/
def crlsBackCard : Claim7 := { stood := { row := crlsBackRow, standIns := [], harness := (true, "15a886be5e19b5979112ed62f2aa04095e64c17ef7436852f4e3964fd73cafa6"), looks := true }, kinds := [], alts := [], laidByText := true, laidKinds := [.data, .pinned], laidTests := true, laidLooks := .later }
def CrlsBackCardSaid : Prop := Claim7.holds Tryd.pinned (.plain (OpenSpec.ofChange crlsBackSpec)) crlsBackCard

/-- THE TIED CARD OF 'warderlaw12.CrlsSpans'. -/
def crlsSpansCard : Claim7 := { stood := { row := crlsSpansRow, standIns := [], harness := (true, "15a886be5e19b5979112ed62f2aa04095e64c17ef7436852f4e3964fd73cafa6"), looks := true }, kinds := [], alts := [], laidByText := true, laidKinds := [.data, .pinned], laidTests := true, laidLooks := .later }
def CrlsSpansCardSaid : Prop := Claim7.holds Tryd.pinned (.plain (OpenSpec.ofChange crlsSpansSpec)) crlsSpansCard

/-- THE TIED CARD OF 'warderlaw12.CrlsMore'. -/
def crlsMoreCard : Claim7 := { stood := { row := crlsMoreRow, standIns := [], harness := (true, "15a886be5e19b5979112ed62f2aa04095e64c17ef7436852f4e3964fd73cafa6"), looks := true }, kinds := [], alts := [], laidByText := true, laidKinds := [.data, .pinned], laidTests := true, laidLooks := .later }
def CrlsMoreCardSaid : Prop := Claim7.holds Tryd.pinned (.plain (OpenSpec.ofChange crlsMoreSpec)) crlsMoreCard

/-- THE SECOND FORM's CARD OF 'warderlaw12.CrlsBack'. -/
def crlsBackUptoCard : Claim7 := { stood := { row := crlsBackUptoRow, standIns := [], harness := (true, "15a886be5e19b5979112ed62f2aa04095e64c17ef7436852f4e3964fd73cafa6"), looks := true }, kinds := [], alts := [], laidByText := true, laidKinds := [.data, .pinned], laidTests := true, laidLooks := .later }
def CrlsBackUptoCardSaid : Prop := Claim7.holds Tryd.pinned (.plain (OpenSpec.upto crlsBackSpec)) crlsBackUptoCard

/-- THE SECOND FORM's CARD OF 'warderlaw12.CrlsSpans'. -/
def crlsSpansUptoCard : Claim7 := { stood := { row := crlsSpansUptoRow, standIns := [], harness := (true, "15a886be5e19b5979112ed62f2aa04095e64c17ef7436852f4e3964fd73cafa6"), looks := true }, kinds := [], alts := [], laidByText := true, laidKinds := [.data, .pinned], laidTests := true, laidLooks := .later }
def CrlsSpansUptoCardSaid : Prop := Claim7.holds Tryd.pinned (.plain (OpenSpec.upto crlsSpansSpec)) crlsSpansUptoCard

/-- THE SECOND FORM's CARD OF 'warderlaw12.CrlsMore'. -/
def crlsMoreUptoCard : Claim7 := { stood := { row := crlsMoreUptoRow, standIns := [], harness := (true, "15a886be5e19b5979112ed62f2aa04095e64c17ef7436852f4e3964fd73cafa6"), looks := true }, kinds := [], alts := [], laidByText := true, laidKinds := [.data, .pinned], laidTests := true, laidLooks := .later }
def CrlsMoreUptoCardSaid : Prop := Claim7.holds Tryd.pinned (.plain (OpenSpec.upto crlsMoreSpec)) crlsMoreUptoCard
end Rows
end Go.Proofs.YtconbejjagcnkaaDoor
