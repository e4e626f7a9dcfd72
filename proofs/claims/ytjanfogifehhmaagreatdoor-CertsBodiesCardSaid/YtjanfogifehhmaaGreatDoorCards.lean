/-
  DERIVED. GIVEN WITH THE SEED: THE CARDS: each row of YtjanfogifehhmaaGreatDoorRows.lean that lists a variable, with what it lists TIED to the program's text (the seventh form; the later family's looks); each row that meets fmt, with fmt's text TOLD by the authors' own Lean function (tested against real Go, not proved from fmt's source: count such statements apart). THE CARD IS WHAT COUNTS. Prove the row's statement (the work); the ties are given (YtjanfogifehhmaaGreatDoorTie.lean); close each card by the builder's one call (the guide's Derived/Test/ToyasCard.lean, 'card_holds'). Laid BY PROGRAM, IN A SANDBOX (cutbox-door.mjs). By AI agents, Wed Nov 11 2026. No macro, syntax, notation, axiom, sorry.
-/
import Derived.Test.YtjanfogifehhmaaGreatDoorRows
import GoSem.ClaimSeven
namespace Go.Proofs.YtjanfogifehhmaaGreatDoor
namespace Rows

/-- THE TIED CARD OF 'warderlaw11.CertsPut'. -/
def certsPutCard : Claim7 := { stood := { row := certsPutRow, standIns := [], harness := (true, "032ab509e31c3550731515648c9bc168ed1c43714774995928097ef30869a4ff"), looks := true }, kinds := [], alts := [], laidByText := true, laidKinds := [.data, .pinned], laidTests := true, laidLooks := .later }
def CertsPutCardSaid : Prop := Claim7.holds Tryz.pinned (.plain (OpenSpec.ofChange certsPutSpec)) certsPutCard

/-- THE TIED CARD OF 'warderlaw11.CertsGet'. -/
def certsGetCard : Claim7 := { stood := { row := certsGetRow, standIns := [], harness := (true, "032ab509e31c3550731515648c9bc168ed1c43714774995928097ef30869a4ff"), looks := true }, kinds := [], alts := [], laidByText := true, laidKinds := [.data, .pinned], laidTests := true, laidLooks := .later }
def CertsGetCardSaid : Prop := Claim7.holds Tryz.pinned (.plain (OpenSpec.ofChange certsGetSpec)) certsGetCard

/-- THE TIED CARD OF 'warderlaw11.CertsBack'. -/
def certsBackCard : Claim7 := { stood := { row := certsBackRow, standIns := [], harness := (true, "032ab509e31c3550731515648c9bc168ed1c43714774995928097ef30869a4ff"), looks := true }, kinds := [], alts := [], laidByText := true, laidKinds := [.data, .pinned], laidTests := true, laidLooks := .later }
def CertsBackCardSaid : Prop := Claim7.holds Tryz.pinned (.plain (OpenSpec.ofChange certsBackSpec)) certsBackCard

/-- THE TIED CARD OF 'warderlaw11.CertsBodies'. -/
def certsBodiesCard : Claim7 := { stood := { row := certsBodiesRow, standIns := [], harness := (true, "032ab509e31c3550731515648c9bc168ed1c43714774995928097ef30869a4ff"), looks := true }, kinds := [], alts := [], laidByText := true, laidKinds := [.data, .pinned], laidTests := true, laidLooks := .later }
def CertsBodiesCardSaid : Prop := Claim7.holds Tryz.pinned (.plain (OpenSpec.ofChange certsBodiesSpec)) certsBodiesCard

/-- THE TIED CARD OF 'warderlaw11.CertsCuts'. -/
def certsCutsCard : Claim7 := { stood := { row := certsCutsRow, standIns := [], harness := (true, "032ab509e31c3550731515648c9bc168ed1c43714774995928097ef30869a4ff"), looks := true }, kinds := [], alts := [], laidByText := true, laidKinds := [.data, .pinned], laidTests := true, laidLooks := .later }
def CertsCutsCardSaid : Prop := Claim7.holds Tryz.pinned (.plain (OpenSpec.ofChange certsCutsSpec)) certsCutsCard

/-- THE TIED CARD OF 'warderlaw11.CertsSigned'. -/
def certsSignedCard : Claim7 := { stood := { row := certsSignedRow, standIns := [], harness := (true, "032ab509e31c3550731515648c9bc168ed1c43714774995928097ef30869a4ff"), looks := true }, kinds := [], alts := [], laidByText := true, laidKinds := [.data, .pinned], laidTests := true, laidLooks := .later }
def CertsSignedCardSaid : Prop := Claim7.holds Tryz.pinned (.plain (OpenSpec.ofChange certsSignedSpec)) certsSignedCard

/-- THE SECOND FORM's CARD OF 'warderlaw11.CertsPut'. -/
def certsPutUptoCard : Claim7 := { stood := { row := certsPutUptoRow, standIns := [], harness := (true, "032ab509e31c3550731515648c9bc168ed1c43714774995928097ef30869a4ff"), looks := true }, kinds := [], alts := [], laidByText := true, laidKinds := [.data, .pinned], laidTests := true, laidLooks := .later }
def CertsPutUptoCardSaid : Prop := Claim7.holds Tryz.pinned (.plain (OpenSpec.upto certsPutSpec)) certsPutUptoCard

/-- THE SECOND FORM's CARD OF 'warderlaw11.CertsGet'. -/
def certsGetUptoCard : Claim7 := { stood := { row := certsGetUptoRow, standIns := [], harness := (true, "032ab509e31c3550731515648c9bc168ed1c43714774995928097ef30869a4ff"), looks := true }, kinds := [], alts := [], laidByText := true, laidKinds := [.data, .pinned], laidTests := true, laidLooks := .later }
def CertsGetUptoCardSaid : Prop := Claim7.holds Tryz.pinned (.plain (OpenSpec.upto certsGetSpec)) certsGetUptoCard

/-- THE SECOND FORM's CARD OF 'warderlaw11.CertsBack'. -/
def certsBackUptoCard : Claim7 := { stood := { row := certsBackUptoRow, standIns := [], harness := (true, "032ab509e31c3550731515648c9bc168ed1c43714774995928097ef30869a4ff"), looks := true }, kinds := [], alts := [], laidByText := true, laidKinds := [.data, .pinned], laidTests := true, laidLooks := .later }
def CertsBackUptoCardSaid : Prop := Claim7.holds Tryz.pinned (.plain (OpenSpec.upto certsBackSpec)) certsBackUptoCard

/-- THE SECOND FORM's CARD OF 'warderlaw11.CertsBodies'. -/
def certsBodiesUptoCard : Claim7 := { stood := { row := certsBodiesUptoRow, standIns := [], harness := (true, "032ab509e31c3550731515648c9bc168ed1c43714774995928097ef30869a4ff"), looks := true }, kinds := [], alts := [], laidByText := true, laidKinds := [.data, .pinned], laidTests := true, laidLooks := .later }
def CertsBodiesUptoCardSaid : Prop := Claim7.holds Tryz.pinned (.plain (OpenSpec.upto certsBodiesSpec)) certsBodiesUptoCard

/-- THE SECOND FORM's CARD OF 'warderlaw11.CertsCuts'. -/
def certsCutsUptoCard : Claim7 := { stood := { row := certsCutsUptoRow, standIns := [], harness := (true, "032ab509e31c3550731515648c9bc168ed1c43714774995928097ef30869a4ff"), looks := true }, kinds := [], alts := [], laidByText := true, laidKinds := [.data, .pinned], laidTests := true, laidLooks := .later }
def CertsCutsUptoCardSaid : Prop := Claim7.holds Tryz.pinned (.plain (OpenSpec.upto certsCutsSpec)) certsCutsUptoCard

/-- THE SECOND FORM's CARD OF 'warderlaw11.CertsSigned'. -/
def certsSignedUptoCard : Claim7 := { stood := { row := certsSignedUptoRow, standIns := [], harness := (true, "032ab509e31c3550731515648c9bc168ed1c43714774995928097ef30869a4ff"), looks := true }, kinds := [], alts := [], laidByText := true, laidKinds := [.data, .pinned], laidTests := true, laidLooks := .later }
def CertsSignedUptoCardSaid : Prop := Claim7.holds Tryz.pinned (.plain (OpenSpec.upto certsSignedSpec)) certsSignedUptoCard
end Rows
end Go.Proofs.YtjanfogifehhmaaGreatDoor
