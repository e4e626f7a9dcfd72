/-
  DERIVED. GIVEN WITH THE SEED: THE CARDS: each row of YtdcpggodlggjjaaGreatDoorRows.lean that lists a variable, with what it lists TIED to the program's text (the seventh form; the later family's looks); each row that meets fmt, with fmt's text TOLD by the authors' own Lean function (tested against real Go, not proved from fmt's source: count such statements apart). THE CARD IS WHAT COUNTS. Prove the row's statement (the work); the ties are given (YtdcpggodlggjjaaGreatDoorTie.lean); close each card by the builder's one call (the guide's Derived/Test/ToyasCard.lean, 'card_holds'). Laid BY PROGRAM, IN A SANDBOX (cutbox-door.mjs). By AI agents, Wed Nov 11 2026. No macro, syntax, notation, axiom, sorry.
-/
import Derived.Test.YtdcpggodlggjjaaGreatDoorRows
import GoSem.ClaimSeven
namespace Go.Proofs.YtdcpggodlggjjaaGreatDoor
namespace Rows

/-- THE TIED CARD OF 'warderlaw10.ExtsPut'. -/
def extsPutCard : Claim7 := { stood := { row := extsPutRow, standIns := [], harness := (true, "7705f879ade259ea0e7af5350a2ad4e542dcd025bd40ec77758ecd2eb97577eb"), looks := true }, kinds := [], alts := [], laidByText := true, laidKinds := [.data, .pinned], laidTests := true, laidLooks := .later }
def ExtsPutCardSaid : Prop := Claim7.holds Tryz.pinned (.plain (OpenSpec.ofChange extsPutSpec)) extsPutCard

/-- THE TIED CARD OF 'warderlaw10.ExtsGet'. -/
def extsGetCard : Claim7 := { stood := { row := extsGetRow, standIns := [], harness := (true, "7705f879ade259ea0e7af5350a2ad4e542dcd025bd40ec77758ecd2eb97577eb"), looks := true }, kinds := [], alts := [], laidByText := true, laidKinds := [.data, .pinned], laidTests := true, laidLooks := .later }
def ExtsGetCardSaid : Prop := Claim7.holds Tryz.pinned (.plain (OpenSpec.ofChange extsGetSpec)) extsGetCard

/-- THE TIED CARD OF 'warderlaw10.ExtsBack'. -/
def extsBackCard : Claim7 := { stood := { row := extsBackRow, standIns := [], harness := (true, "7705f879ade259ea0e7af5350a2ad4e542dcd025bd40ec77758ecd2eb97577eb"), looks := true }, kinds := [], alts := [], laidByText := true, laidKinds := [.data, .pinned], laidTests := true, laidLooks := .later }
def ExtsBackCardSaid : Prop := Claim7.holds Tryz.pinned (.plain (OpenSpec.ofChange extsBackSpec)) extsBackCard

/-- THE TIED CARD OF 'warderlaw10.ExtsTurned'. -/
def extsTurnedCard : Claim7 := { stood := { row := extsTurnedRow, standIns := [], harness := (true, "7705f879ade259ea0e7af5350a2ad4e542dcd025bd40ec77758ecd2eb97577eb"), looks := true }, kinds := [], alts := [], laidByText := true, laidKinds := [.data, .pinned], laidTests := true, laidLooks := .later }
def ExtsTurnedCardSaid : Prop := Claim7.holds Tryz.pinned (.plain (OpenSpec.ofChange extsTurnedSpec)) extsTurnedCard

/-- THE TIED CARD OF 'warderlaw10.ExtsPaths'. -/
def extsPathsCard : Claim7 := { stood := { row := extsPathsRow, standIns := [], harness := (true, "7705f879ade259ea0e7af5350a2ad4e542dcd025bd40ec77758ecd2eb97577eb"), looks := true }, kinds := [], alts := [], laidByText := true, laidKinds := [.data, .pinned], laidTests := true, laidLooks := .later }
def ExtsPathsCardSaid : Prop := Claim7.holds Tryz.pinned (.plain (OpenSpec.ofChange extsPathsSpec)) extsPathsCard

/-- THE SECOND FORM's CARD OF 'warderlaw10.ExtsPut'. -/
def extsPutUptoCard : Claim7 := { stood := { row := extsPutUptoRow, standIns := [], harness := (true, "7705f879ade259ea0e7af5350a2ad4e542dcd025bd40ec77758ecd2eb97577eb"), looks := true }, kinds := [], alts := [], laidByText := true, laidKinds := [.data, .pinned], laidTests := true, laidLooks := .later }
def ExtsPutUptoCardSaid : Prop := Claim7.holds Tryz.pinned (.plain (OpenSpec.upto extsPutSpec)) extsPutUptoCard

/-- THE SECOND FORM's CARD OF 'warderlaw10.ExtsGet'. -/
def extsGetUptoCard : Claim7 := { stood := { row := extsGetUptoRow, standIns := [], harness := (true, "7705f879ade259ea0e7af5350a2ad4e542dcd025bd40ec77758ecd2eb97577eb"), looks := true }, kinds := [], alts := [], laidByText := true, laidKinds := [.data, .pinned], laidTests := true, laidLooks := .later }
def ExtsGetUptoCardSaid : Prop := Claim7.holds Tryz.pinned (.plain (OpenSpec.upto extsGetSpec)) extsGetUptoCard

/-- THE SECOND FORM's CARD OF 'warderlaw10.ExtsBack'. -/
def extsBackUptoCard : Claim7 := { stood := { row := extsBackUptoRow, standIns := [], harness := (true, "7705f879ade259ea0e7af5350a2ad4e542dcd025bd40ec77758ecd2eb97577eb"), looks := true }, kinds := [], alts := [], laidByText := true, laidKinds := [.data, .pinned], laidTests := true, laidLooks := .later }
def ExtsBackUptoCardSaid : Prop := Claim7.holds Tryz.pinned (.plain (OpenSpec.upto extsBackSpec)) extsBackUptoCard

/-- THE SECOND FORM's CARD OF 'warderlaw10.ExtsTurned'. -/
def extsTurnedUptoCard : Claim7 := { stood := { row := extsTurnedUptoRow, standIns := [], harness := (true, "7705f879ade259ea0e7af5350a2ad4e542dcd025bd40ec77758ecd2eb97577eb"), looks := true }, kinds := [], alts := [], laidByText := true, laidKinds := [.data, .pinned], laidTests := true, laidLooks := .later }
def ExtsTurnedUptoCardSaid : Prop := Claim7.holds Tryz.pinned (.plain (OpenSpec.upto extsTurnedSpec)) extsTurnedUptoCard

/-- THE SECOND FORM's CARD OF 'warderlaw10.ExtsPaths'. -/
def extsPathsUptoCard : Claim7 := { stood := { row := extsPathsUptoRow, standIns := [], harness := (true, "7705f879ade259ea0e7af5350a2ad4e542dcd025bd40ec77758ecd2eb97577eb"), looks := true }, kinds := [], alts := [], laidByText := true, laidKinds := [.data, .pinned], laidTests := true, laidLooks := .later }
def ExtsPathsUptoCardSaid : Prop := Claim7.holds Tryz.pinned (.plain (OpenSpec.upto extsPathsSpec)) extsPathsUptoCard
end Rows
end Go.Proofs.YtdcpggodlggjjaaGreatDoor
