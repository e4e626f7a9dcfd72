/-
  DERIVED. GIVEN WITH THE SEED: THE CARDS: each row of YtlnclgpbobaedaaDoorRows.lean that lists a variable, with what it lists TIED to the program's text (the seventh form; the later family's looks); each row that meets fmt, with fmt's text TOLD by the authors' own Lean function (tested against real Go, not proved from fmt's source: count such statements apart). THE CARD IS WHAT COUNTS. Prove the row's statement (the work); the ties are given (YtlnclgpbobaedaaDoorTie.lean); close each card by the builder's one call (the guide's Derived/Test/ToyasCard.lean, 'card_holds'). Laid BY PROGRAM, IN A SANDBOX (cutbox-door.mjs). By AI agents, Wed Nov 11 2026. No macro, syntax, notation, axiom, sorry.
-/
import Derived.Test.YtlnclgpbobaedaaDoorRows
import GoSem.ClaimSeven
namespace Go.Proofs.YtlnclgpbobaedaaDoor
namespace Rows

/-- THE TIED CARD OF 'warderlaw06.VaultTells'. -/
def vaultTellsCard : Claim7 := { stood := { row := vaultTellsRow, standIns := [], harness := (true, "4b59f6f09eba618165909192c308384a0a3f7f31f75f935c4499fd10ab7d7783"), looks := false }, kinds := [], alts := [], laidByText := true, laidKinds := [.data, .data, .data], laidTests := true, laidLooks := .later }
def VaultTellsCardSaid : Prop := Claim7.holds Tryd.pinned (.plain (OpenSpec.ofChange vaultTellsSpec)) vaultTellsCard

/-- THE TIED CARD OF 'warderlaw06.VaultBytes'. -/
def vaultBytesCard : Claim7 := { stood := { row := vaultBytesRow, standIns := [], harness := (true, "4b59f6f09eba618165909192c308384a0a3f7f31f75f935c4499fd10ab7d7783"), looks := false }, kinds := [], alts := [], laidByText := true, laidKinds := [.data, .data, .data], laidTests := true, laidLooks := .later }
def VaultBytesCardSaid : Prop := Claim7.holds Tryd.pinned (.plain (OpenSpec.ofChange vaultBytesSpec)) vaultBytesCard

/-- THE TIED CARD OF 'warderlaw06.VaultOnce'. -/
def vaultOnceCard : Claim7 := { stood := { row := vaultOnceRow, standIns := [], harness := (true, "4b59f6f09eba618165909192c308384a0a3f7f31f75f935c4499fd10ab7d7783"), looks := false }, kinds := [], alts := [], laidByText := true, laidKinds := [.data, .data, .data], laidTests := true, laidLooks := .later }
def VaultOnceCardSaid : Prop := Claim7.holds Tryd.pinned (.plain (OpenSpec.ofChange vaultOnceSpec)) vaultOnceCard

/-- THE TIED CARD OF 'warderlaw06.VaultMentions'. -/
def vaultMentionsCard : Claim7 := { stood := { row := vaultMentionsRow, standIns := [], harness := (true, "4b59f6f09eba618165909192c308384a0a3f7f31f75f935c4499fd10ab7d7783"), looks := false }, kinds := [], alts := [], laidByText := true, laidKinds := [.data, .data, .data], laidTests := true, laidLooks := .later }
def VaultMentionsCardSaid : Prop := Claim7.holds Tryd.pinned (.plain (OpenSpec.ofChange vaultMentionsSpec)) vaultMentionsCard

/-- THE TIED CARD OF 'warderlaw06.VaultGrows'. -/
def vaultGrowsCard : Claim7 := { stood := { row := vaultGrowsRow, standIns := [], harness := (true, "4b59f6f09eba618165909192c308384a0a3f7f31f75f935c4499fd10ab7d7783"), looks := false }, kinds := [], alts := [], laidByText := true, laidKinds := [.data, .data, .data], laidTests := true, laidLooks := .later }
def VaultGrowsCardSaid : Prop := Claim7.holds Tryd.pinned (.plain (OpenSpec.ofChange vaultGrowsSpec)) vaultGrowsCard

/-- THE SECOND FORM's CARD OF 'warderlaw06.VaultTells'. -/
def vaultTellsUptoCard : Claim7 := { stood := { row := vaultTellsUptoRow, standIns := [], harness := (true, "4b59f6f09eba618165909192c308384a0a3f7f31f75f935c4499fd10ab7d7783"), looks := false }, kinds := [], alts := [], laidByText := true, laidKinds := [.data, .data, .data], laidTests := true, laidLooks := .later }
def VaultTellsUptoCardSaid : Prop := Claim7.holds Tryd.pinned (.plain (OpenSpec.upto vaultTellsSpec)) vaultTellsUptoCard

/-- THE SECOND FORM's CARD OF 'warderlaw06.VaultBytes'. -/
def vaultBytesUptoCard : Claim7 := { stood := { row := vaultBytesUptoRow, standIns := [], harness := (true, "4b59f6f09eba618165909192c308384a0a3f7f31f75f935c4499fd10ab7d7783"), looks := false }, kinds := [], alts := [], laidByText := true, laidKinds := [.data, .data, .data], laidTests := true, laidLooks := .later }
def VaultBytesUptoCardSaid : Prop := Claim7.holds Tryd.pinned (.plain (OpenSpec.upto vaultBytesSpec)) vaultBytesUptoCard

/-- THE SECOND FORM's CARD OF 'warderlaw06.VaultOnce'. -/
def vaultOnceUptoCard : Claim7 := { stood := { row := vaultOnceUptoRow, standIns := [], harness := (true, "4b59f6f09eba618165909192c308384a0a3f7f31f75f935c4499fd10ab7d7783"), looks := false }, kinds := [], alts := [], laidByText := true, laidKinds := [.data, .data, .data], laidTests := true, laidLooks := .later }
def VaultOnceUptoCardSaid : Prop := Claim7.holds Tryd.pinned (.plain (OpenSpec.upto vaultOnceSpec)) vaultOnceUptoCard

/-- THE SECOND FORM's CARD OF 'warderlaw06.VaultMentions'. -/
def vaultMentionsUptoCard : Claim7 := { stood := { row := vaultMentionsUptoRow, standIns := [], harness := (true, "4b59f6f09eba618165909192c308384a0a3f7f31f75f935c4499fd10ab7d7783"), looks := false }, kinds := [], alts := [], laidByText := true, laidKinds := [.data, .data, .data], laidTests := true, laidLooks := .later }
def VaultMentionsUptoCardSaid : Prop := Claim7.holds Tryd.pinned (.plain (OpenSpec.upto vaultMentionsSpec)) vaultMentionsUptoCard

/-- THE SECOND FORM's CARD OF 'warderlaw06.VaultGrows'. -/
def vaultGrowsUptoCard : Claim7 := { stood := { row := vaultGrowsUptoRow, standIns := [], harness := (true, "4b59f6f09eba618165909192c308384a0a3f7f31f75f935c4499fd10ab7d7783"), looks := false }, kinds := [], alts := [], laidByText := true, laidKinds := [.data, .data, .data], laidTests := true, laidLooks := .later }
def VaultGrowsUptoCardSaid : Prop := Claim7.holds Tryd.pinned (.plain (OpenSpec.upto vaultGrowsSpec)) vaultGrowsUptoCard
end Rows
end Go.Proofs.YtlnclgpbobaedaaDoor
