/- The document's Parts and Same. -/
import Derived.Test.YtdcpggodlggjjaaGreatDoorKa
import Derived.Test.YtdcpggodlggjjaaGreatDoorProg
import Derived.Test.YtdcpggodlggjjaaGreatDoorIa
import Derived.RegionTactic
import Derived.Deep.QuietTactic
import Derived.Deep.LoopGhost
import Derived.StillTailTactics
import Derived.Deep.Heap
namespace Go.Proofs.YtdcpggodlggjjaaGreatDoor.ndc
open Go.RowKit Go.Proofs.YtdcpggodlggjjaaGreatDoor.tlvc Go.Proofs.YtdcpggodlggjjaaGreatDoor.intc
set_option linter.unusedVariables false
end Go.Proofs.YtdcpggodlggjjaaGreatDoor.ndc
