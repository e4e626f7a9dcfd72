/- stub -/
import Derived.Test.YtdcpggodlggjjaaGreatDoorKa
import Derived.Test.YtdcpggodlggjjaaGreatDoorProg
import Derived.Lib.ValidAsc
import Derived.Lib.Walk
import Derived.Lib.Endian
import Derived.Lib.EndianBits
import Derived.RegionTactic
import Derived.Deep.Draws
import Derived.Deep.QuietTactic
import Derived.Test.YtdcpggodlggjjaaGreatDoorXc
import Derived.Test.YtdcpggodlggjjaaGreatDoorXf
namespace Go.Proofs.YtdcpggodlggjjaaGreatDoor.txc
open Go.RowKit Go.Proofs.YtdcpggodlggjjaaGreatDoor.txm Go.Proofs.YtdcpggodlggjjaaGreatDoor.tlvc
set_option linter.unusedVariables false
end Go.Proofs.YtdcpggodlggjjaaGreatDoor.txc
