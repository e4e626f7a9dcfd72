/-
  DERIVED. GIVEN WITH THE SEED: THE CARDS: each row of YtaafgohaikhekaaDoorRows.lean that lists a variable, with what it lists TIED to the program's text (the seventh form; the later family's looks); each row that meets fmt, with fmt's text TOLD by the authors' own Lean function (tested against real Go, not proved from fmt's source: count such statements apart). THE CARD IS WHAT COUNTS. Prove the row's statement (the work); the ties are given (YtaafgohaikhekaaDoorTie.lean); close each card by the builder's one call (the guide's Derived/Test/ToyasCard.lean, 'card_holds'). Laid BY PROGRAM, IN A SANDBOX (cutbox-door.mjs). By AI agents, Wed Nov 11 2026. No macro, syntax, notation, axiom, sorry.
-/
import Derived.Test.YtaafgohaikhekaaDoorRows
import GoSem.ClaimSeven
namespace Go.Proofs.YtaafgohaikhekaaDoor
namespace Rows

/-- THE TIED CARD OF 'warderlaw04.NodesPrints'. -/
def nodesPrintsCard : Claim7 := { stood := { row := nodesPrintsRow, standIns := [], harness := (true, "dc1185e3baf81d61229149ace05af4c390aecfe1b77779e6ec2024bf70f0ca42"), looks := true }, kinds := [], alts := [], laidByText := true, laidKinds := [.data, .pinned], laidTests := true, laidLooks := .later }
def NodesPrintsCardSaid : Prop := Claim7.holds Tryd.pinned (.plain (OpenSpec.ofChange nodesPrintsSpec)) nodesPrintsCard

/-- THE TIED CARD OF 'warderlaw04.NodesParses'. -/
def nodesParsesCard : Claim7 := { stood := { row := nodesParsesRow, standIns := [], harness := (true, "dc1185e3baf81d61229149ace05af4c390aecfe1b77779e6ec2024bf70f0ca42"), looks := true }, kinds := [], alts := [], laidByText := true, laidKinds := [.data, .pinned], laidTests := true, laidLooks := .later }
def NodesParsesCardSaid : Prop := Claim7.holds Tryd.pinned (.plain (OpenSpec.ofChange nodesParsesSpec)) nodesParsesCard

/-- THE TIED CARD OF 'warderlaw04.NodesBack'. -/
def nodesBackCard : Claim7 := { stood := { row := nodesBackRow, standIns := [], harness := (true, "dc1185e3baf81d61229149ace05af4c390aecfe1b77779e6ec2024bf70f0ca42"), looks := true }, kinds := [], alts := [], laidByText := true, laidKinds := [.data, .pinned], laidTests := true, laidLooks := .later }
def NodesBackCardSaid : Prop := Claim7.holds Tryd.pinned (.plain (OpenSpec.ofChange nodesBackSpec)) nodesBackCard

/-- THE TIED CARD OF 'warderlaw04.NodesInner'. -/
def nodesInnerCard : Claim7 := { stood := { row := nodesInnerRow, standIns := [], harness := (true, "dc1185e3baf81d61229149ace05af4c390aecfe1b77779e6ec2024bf70f0ca42"), looks := true }, kinds := [], alts := [], laidByText := true, laidKinds := [.data, .pinned], laidTests := true, laidLooks := .later }
def NodesInnerCardSaid : Prop := Claim7.holds Tryd.pinned (.plain (OpenSpec.ofChange nodesInnerSpec)) nodesInnerCard

/-- THE TIED CARD OF 'warderlaw04.NodesSets'. -/
def nodesSetsCard : Claim7 := { stood := { row := nodesSetsRow, standIns := [], harness := (true, "dc1185e3baf81d61229149ace05af4c390aecfe1b77779e6ec2024bf70f0ca42"), looks := true }, kinds := [], alts := [], laidByText := true, laidKinds := [.data, .pinned], laidTests := true, laidLooks := .later }
def NodesSetsCardSaid : Prop := Claim7.holds Tryd.pinned (.plain (OpenSpec.ofChange nodesSetsSpec)) nodesSetsCard

/-- THE TIED CARD OF 'warderlaw04.NodesDeep'. -/
def nodesDeepCard : Claim7 := { stood := { row := nodesDeepRow, standIns := [], harness := (true, "dc1185e3baf81d61229149ace05af4c390aecfe1b77779e6ec2024bf70f0ca42"), looks := true }, kinds := [], alts := [], laidByText := true, laidKinds := [.data, .pinned], laidTests := true, laidLooks := .later }
def NodesDeepCardSaid : Prop := Claim7.holds Tryd.pinned (.plain (OpenSpec.ofChange nodesDeepSpec)) nodesDeepCard

/-- THE SECOND FORM's CARD OF 'warderlaw04.NodesPrints'. -/
def nodesPrintsUptoCard : Claim7 := { stood := { row := nodesPrintsUptoRow, standIns := [], harness := (true, "dc1185e3baf81d61229149ace05af4c390aecfe1b77779e6ec2024bf70f0ca42"), looks := true }, kinds := [], alts := [], laidByText := true, laidKinds := [.data, .pinned], laidTests := true, laidLooks := .later }
def NodesPrintsUptoCardSaid : Prop := Claim7.holds Tryd.pinned (.plain (OpenSpec.upto nodesPrintsSpec)) nodesPrintsUptoCard

/-- THE SECOND FORM's CARD OF 'warderlaw04.NodesParses'. -/
def nodesParsesUptoCard : Claim7 := { stood := { row := nodesParsesUptoRow, standIns := [], harness := (true, "dc1185e3baf81d61229149ace05af4c390aecfe1b77779e6ec2024bf70f0ca42"), looks := true }, kinds := [], alts := [], laidByText := true, laidKinds := [.data, .pinned], laidTests := true, laidLooks := .later }
def NodesParsesUptoCardSaid : Prop := Claim7.holds Tryd.pinned (.plain (OpenSpec.upto nodesParsesSpec)) nodesParsesUptoCard

/-- THE SECOND FORM's CARD OF 'warderlaw04.NodesBack'. -/
def nodesBackUptoCard : Claim7 := { stood := { row := nodesBackUptoRow, standIns := [], harness := (true, "dc1185e3baf81d61229149ace05af4c390aecfe1b77779e6ec2024bf70f0ca42"), looks := true }, kinds := [], alts := [], laidByText := true, laidKinds := [.data, .pinned], laidTests := true, laidLooks := .later }
def NodesBackUptoCardSaid : Prop := Claim7.holds Tryd.pinned (.plain (OpenSpec.upto nodesBackSpec)) nodesBackUptoCard

/-- THE SECOND FORM's CARD OF 'warderlaw04.NodesInner'. -/
def nodesInnerUptoCard : Claim7 := { stood := { row := nodesInnerUptoRow, standIns := [], harness := (true, "dc1185e3baf81d61229149ace05af4c390aecfe1b77779e6ec2024bf70f0ca42"), looks := true }, kinds := [], alts := [], laidByText := true, laidKinds := [.data, .pinned], laidTests := true, laidLooks := .later }
def NodesInnerUptoCardSaid : Prop := Claim7.holds Tryd.pinned (.plain (OpenSpec.upto nodesInnerSpec)) nodesInnerUptoCard

/-- THE SECOND FORM's CARD OF 'warderlaw04.NodesSets'. -/
def nodesSetsUptoCard : Claim7 := { stood := { row := nodesSetsUptoRow, standIns := [], harness := (true, "dc1185e3baf81d61229149ace05af4c390aecfe1b77779e6ec2024bf70f0ca42"), looks := true }, kinds := [], alts := [], laidByText := true, laidKinds := [.data, .pinned], laidTests := true, laidLooks := .later }
def NodesSetsUptoCardSaid : Prop := Claim7.holds Tryd.pinned (.plain (OpenSpec.upto nodesSetsSpec)) nodesSetsUptoCard

/-- THE SECOND FORM's CARD OF 'warderlaw04.NodesDeep'. -/
def nodesDeepUptoCard : Claim7 := { stood := { row := nodesDeepUptoRow, standIns := [], harness := (true, "dc1185e3baf81d61229149ace05af4c390aecfe1b77779e6ec2024bf70f0ca42"), looks := true }, kinds := [], alts := [], laidByText := true, laidKinds := [.data, .pinned], laidTests := true, laidLooks := .later }
def NodesDeepUptoCardSaid : Prop := Claim7.holds Tryd.pinned (.plain (OpenSpec.upto nodesDeepSpec)) nodesDeepUptoCard
end Rows
end Go.Proofs.YtaafgohaikhekaaDoor
