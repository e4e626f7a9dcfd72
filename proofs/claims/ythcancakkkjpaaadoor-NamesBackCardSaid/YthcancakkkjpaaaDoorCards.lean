/-
  DERIVED. GIVEN WITH THE SEED: THE CARDS: each row of YthcancakkkjpaaaDoorRows.lean that lists a variable, with what it lists TIED to the program's text (the seventh form; the later family's looks); each row that meets fmt, with fmt's text TOLD by the authors' own Lean function (tested against real Go, not proved from fmt's source: count such statements apart). THE CARD IS WHAT COUNTS. Prove the row's statement (the work); the ties are given (YthcancakkkjpaaaDoorTie.lean); close each card by the builder's one call (the guide's Derived/Test/ToyasCard.lean, 'card_holds'). Laid BY PROGRAM, IN A SANDBOX (cutbox-door.mjs). By AI agents, Wed Nov 11 2026. No macro, syntax, notation, axiom, sorry.
-/
import Derived.Test.YthcancakkkjpaaaDoorRows
import GoSem.ClaimSeven
namespace Go.Proofs.YthcancakkkjpaaaDoor
namespace Rows

/-- THE TIED CARD OF 'warderlaw09.NamesPut'. -/
def namesPutCard : Claim7 := { stood := { row := namesPutRow, standIns := [], harness := (true, "eb7513ab4071db47360b28a85d2438fe77173402d67e9930e8d3407e79a8e118"), looks := true }, kinds := [], alts := [], laidByText := true, laidKinds := [.data, .pinned], laidTests := true, laidLooks := .later }
def NamesPutCardSaid : Prop := Claim7.holds Tryd.pinned (.plain (OpenSpec.ofChange namesPutSpec)) namesPutCard

/-- THE TIED CARD OF 'warderlaw09.NamesSame'. -/
def namesSameCard : Claim7 := { stood := { row := namesSameRow, standIns := [], harness := (true, "eb7513ab4071db47360b28a85d2438fe77173402d67e9930e8d3407e79a8e118"), looks := true }, kinds := [], alts := [], laidByText := true, laidKinds := [.data, .pinned], laidTests := true, laidLooks := .later }
def NamesSameCardSaid : Prop := Claim7.holds Tryd.pinned (.plain (OpenSpec.ofChange namesSameSpec)) namesSameCard

/-- THE TIED CARD OF 'warderlaw09.NamesBack'. -/
def namesBackCard : Claim7 := { stood := { row := namesBackRow, standIns := [], harness := (true, "eb7513ab4071db47360b28a85d2438fe77173402d67e9930e8d3407e79a8e118"), looks := true }, kinds := [], alts := [], laidByText := true, laidKinds := [.data, .pinned], laidTests := true, laidLooks := .later }
def NamesBackCardSaid : Prop := Claim7.holds Tryd.pinned (.plain (OpenSpec.ofChange namesBackSpec)) namesBackCard

/-- THE TIED CARD OF 'warderlaw09.NamesUnder'. -/
def namesUnderCard : Claim7 := { stood := { row := namesUnderRow, standIns := [], harness := (true, "eb7513ab4071db47360b28a85d2438fe77173402d67e9930e8d3407e79a8e118"), looks := true }, kinds := [], alts := [], laidByText := true, laidKinds := [.data, .pinned], laidTests := true, laidLooks := .later }
def NamesUnderCardSaid : Prop := Claim7.holds Tryd.pinned (.plain (OpenSpec.ofChange namesUnderSpec)) namesUnderCard

/-- THE TIED CARD OF 'warderlaw09.NamesFolded'. -/
def namesFoldedCard : Claim7 := { stood := { row := namesFoldedRow, standIns := [], harness := (true, "eb7513ab4071db47360b28a85d2438fe77173402d67e9930e8d3407e79a8e118"), looks := true }, kinds := [], alts := [], laidByText := true, laidKinds := [.data, .pinned], laidTests := true, laidLooks := .later }
def NamesFoldedCardSaid : Prop := Claim7.holds Tryd.pinned (.plain (OpenSpec.ofChange namesFoldedSpec)) namesFoldedCard

/-- THE SECOND FORM's CARD OF 'warderlaw09.NamesPut'. -/
def namesPutUptoCard : Claim7 := { stood := { row := namesPutUptoRow, standIns := [], harness := (true, "eb7513ab4071db47360b28a85d2438fe77173402d67e9930e8d3407e79a8e118"), looks := true }, kinds := [], alts := [], laidByText := true, laidKinds := [.data, .pinned], laidTests := true, laidLooks := .later }
def NamesPutUptoCardSaid : Prop := Claim7.holds Tryd.pinned (.plain (OpenSpec.upto namesPutSpec)) namesPutUptoCard

/-- THE SECOND FORM's CARD OF 'warderlaw09.NamesSame'. -/
def namesSameUptoCard : Claim7 := { stood := { row := namesSameUptoRow, standIns := [], harness := (true, "eb7513ab4071db47360b28a85d2438fe77173402d67e9930e8d3407e79a8e118"), looks := true }, kinds := [], alts := [], laidByText := true, laidKinds := [.data, .pinned], laidTests := true, laidLooks := .later }
def NamesSameUptoCardSaid : Prop := Claim7.holds Tryd.pinned (.plain (OpenSpec.upto namesSameSpec)) namesSameUptoCard

/-- THE SECOND FORM's CARD OF 'warderlaw09.NamesBack'. -/
def namesBackUptoCard : Claim7 := { stood := { row := namesBackUptoRow, standIns := [], harness := (true, "eb7513ab4071db47360b28a85d2438fe77173402d67e9930e8d3407e79a8e118"), looks := true }, kinds := [], alts := [], laidByText := true, laidKinds := [.data, .pinned], laidTests := true, laidLooks := .later }
def NamesBackUptoCardSaid : Prop := Claim7.holds Tryd.pinned (.plain (OpenSpec.upto namesBackSpec)) namesBackUptoCard

/-- THE SECOND FORM's CARD OF 'warderlaw09.NamesUnder'. -/
def namesUnderUptoCard : Claim7 := { stood := { row := namesUnderUptoRow, standIns := [], harness := (true, "eb7513ab4071db47360b28a85d2438fe77173402d67e9930e8d3407e79a8e118"), looks := true }, kinds := [], alts := [], laidByText := true, laidKinds := [.data, .pinned], laidTests := true, laidLooks := .later }
def NamesUnderUptoCardSaid : Prop := Claim7.holds Tryd.pinned (.plain (OpenSpec.upto namesUnderSpec)) namesUnderUptoCard

/-- THE SECOND FORM's CARD OF 'warderlaw09.NamesFolded'. -/
def namesFoldedUptoCard : Claim7 := { stood := { row := namesFoldedUptoRow, standIns := [], harness := (true, "eb7513ab4071db47360b28a85d2438fe77173402d67e9930e8d3407e79a8e118"), looks := true }, kinds := [], alts := [], laidByText := true, laidKinds := [.data, .pinned], laidTests := true, laidLooks := .later }
def NamesFoldedUptoCardSaid : Prop := Claim7.holds Tryd.pinned (.plain (OpenSpec.upto namesFoldedSpec)) namesFoldedUptoCard
end Rows
end Go.Proofs.YthcancakkkjpaaaDoor
