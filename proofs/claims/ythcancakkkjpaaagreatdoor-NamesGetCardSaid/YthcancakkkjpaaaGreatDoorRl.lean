/- The document's node of a name. -/
import Derived.Test.YthcancakkkjpaaaGreatDoorRk
namespace Go.Proofs.YthcancakkkjpaaaGreatDoor.nmc
open Go.RowKit Go.Proofs.YthcancakkkjpaaaGreatDoor.tlvc Go.Proofs.YthcancakkkjpaaaGreatDoor.tlvd Go.Proofs.YthcancakkkjpaaaGreatDoor.ndc Go.Proofs.YthcancakkkjpaaaGreatDoor.txc Go.Proofs.YthcancakkkjpaaaGreatDoor.txm Go.Proofs.YthcancakkkjpaaaGreatDoor.intc Go.Proofs.YthcancakkkjpaaaGreatDoor.intm
set_option linter.unusedVariables false
set_option linter.unusedSimpArgs false
end Go.Proofs.YthcancakkkjpaaaGreatDoor.nmc
