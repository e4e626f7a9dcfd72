/- Names held against one another: the document's Same, Under and Alike. What each law of names asks first: the live question. -/
import Derived.Test.YtdcpggodlggjjaaGreatDoorYe
import Derived.Lib.QuietBelow
import Derived.BigQuiet
namespace Go.Proofs.YtdcpggodlggjjaaGreatDoor.nmc
open Go.RowKit Go.Proofs.YtdcpggodlggjjaaGreatDoor.tlvc Go.Proofs.YtdcpggodlggjjaaGreatDoor.tlvd Go.Proofs.YtdcpggodlggjjaaGreatDoor.ndc Go.Proofs.YtdcpggodlggjjaaGreatDoor.txc Go.Proofs.YtdcpggodlggjjaaGreatDoor.txm Go.Proofs.YtdcpggodlggjjaaGreatDoor.intc Go.Proofs.YtdcpggodlggjjaaGreatDoor.intm
set_option linter.unusedVariables false
set_option linter.unusedSimpArgs false
end Go.Proofs.YtdcpggodlggjjaaGreatDoor.nmc
namespace Go.Proofs.YtdcpggodlggjjaaGreatDoor.nmc
open Go.RowKit Go.Proofs.YtdcpggodlggjjaaGreatDoor.tlvc Go.Proofs.YtdcpggodlggjjaaGreatDoor.tlvd Go.Proofs.YtdcpggodlggjjaaGreatDoor.ndc Go.Proofs.YtdcpggodlggjjaaGreatDoor.txc Go.Proofs.YtdcpggodlggjjaaGreatDoor.txm Go.Proofs.YtdcpggodlggjjaaGreatDoor.intc Go.Proofs.YtdcpggodlggjjaaGreatDoor.intm
set_option linter.unusedVariables false
set_option linter.unusedSimpArgs false
end Go.Proofs.YtdcpggodlggjjaaGreatDoor.nmc
