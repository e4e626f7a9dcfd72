/- The document's Parts and Same. -/
import Derived.Test.YtconbejjagcnkaaDoorKa
import Derived.Test.YtconbejjagcnkaaDoorProg
import Derived.Test.YtconbejjagcnkaaDoorIa
import Derived.RegionTactic
import Derived.Deep.QuietTactic
import Derived.Deep.LoopGhost
import Derived.StillTailTactics
import Derived.Deep.Heap
set_option maxRecDepth 100000
set_option maxHeartbeats 8000000
set_option linter.unusedVariables false
set_option linter.unusedSimpArgs false
namespace Go.Proofs.YtconbejjagcnkaaDoor.ndc
open Go.RowKit tlvc intc
end Go.Proofs.YtconbejjagcnkaaDoor.ndc
