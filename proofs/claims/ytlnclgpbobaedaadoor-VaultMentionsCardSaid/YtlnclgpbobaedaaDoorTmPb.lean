/- terms.Pow: a power's power. -/
import Derived.Test.YtlnclgpbobaedaaDoorTmPa
import Derived.Test.YtlnclgpbobaedaaDoorTmNc
import Derived.Test.YtlnclgpbobaedaaDoorTmY
import Derived.RegionTactic
import Derived.Deep.QuietTactic
import Derived.Deep.RegionLaw
import Derived.BigQuiet
namespace Go.Proofs.YtlnclgpbobaedaaDoor.tmc
open Go.RowKit Go.Proofs.YtlnclgpbobaedaaDoor.tlvc
set_option linter.unusedVariables false
end Go.Proofs.YtlnclgpbobaedaaDoor.tmc
