/- The document's Parts and Same. -/
import Derived.Test.YtconbejjagcnkaaGreatDoorKa
import Derived.Test.YtconbejjagcnkaaGreatDoorProg
import Derived.Test.YtconbejjagcnkaaGreatDoorIa
import Derived.RegionTactic
import Derived.Deep.QuietTactic
import Derived.Deep.LoopGhost
import Derived.StillTailTactics
import Derived.Deep.Heap
namespace Go.Proofs.YtconbejjagcnkaaGreatDoor.ndc
open Go.RowKit Go.Proofs.YtconbejjagcnkaaGreatDoor.tlvc Go.Proofs.YtconbejjagcnkaaGreatDoor.intc
set_option linter.unusedVariables false
end Go.Proofs.YtconbejjagcnkaaGreatDoor.ndc
