/-
  DERIVED. GIVEN WITH THE SEED: THE CARDS: each row of YtfmdmahlljbbmaaGreatDoorRows.lean that lists a variable, with what it lists TIED to the program's text (the seventh form; the later family's looks); each row that meets fmt, with fmt's text TOLD by the authors' own Lean function (tested against real Go, not proved from fmt's source: count such statements apart). THE CARD IS WHAT COUNTS. Prove the row's statement (the work); the ties are given (YtfmdmahlljbbmaaGreatDoorTie.lean); close each card by the builder's one call (the guide's Derived/Test/ToyasCard.lean, 'card_holds'). Laid BY PROGRAM, IN A SANDBOX (cutbox-door.mjs). By AI agents, Wed Nov 11 2026. No macro, syntax, notation, axiom, sorry.
-/
import Derived.Test.YtfmdmahlljbbmaaGreatDoorRows
import GoSem.ClaimSeven
namespace Go.Proofs.YtfmdmahlljbbmaaGreatDoor
namespace Rows

/-- THE TIED CARD OF 'warderlaw07.CryptoPlays'. -/
def cryptoPlaysCard : Claim7 := { stood := { row := cryptoPlaysRow, standIns := [], harness := (true, "ea4325d231533c9e096dc9cffbe1f5569ed241c82448f30c7ead0eee4f57299f"), looks := false }, kinds := [], alts := [], laidByText := true, laidKinds := [.data, .data, .data], laidTests := true, laidLooks := .later }
def CryptoPlaysCardSaid : Prop := Claim7.holds Tryz.pinned (.plain (OpenSpec.ofChange cryptoPlaysSpec)) cryptoPlaysCard

/-- THE SECOND FORM's CARD OF 'warderlaw07.CryptoPlays'. -/
def cryptoPlaysUptoCard : Claim7 := { stood := { row := cryptoPlaysUptoRow, standIns := [], harness := (true, "ea4325d231533c9e096dc9cffbe1f5569ed241c82448f30c7ead0eee4f57299f"), looks := false }, kinds := [], alts := [], laidByText := true, laidKinds := [.data, .data, .data], laidTests := true, laidLooks := .later }
def CryptoPlaysUptoCardSaid : Prop := Claim7.holds Tryz.pinned (.plain (OpenSpec.upto cryptoPlaysSpec)) cryptoPlaysUptoCard
end Rows
end Go.Proofs.YtfmdmahlljbbmaaGreatDoor
