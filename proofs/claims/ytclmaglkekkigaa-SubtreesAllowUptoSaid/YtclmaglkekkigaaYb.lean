/- The program's checked, and what its makers of nodes share: a node in a result's cells. The program's seqOf: the node of parts, one behind the other: of a name's parts, of nodes, of texts. The program's seqOf, of nodes. The program's seqOf, of texts. The program's general, and the node of a name's part. The program's Put and PutPrinc. -/
import Derived.Test.YtclmaglkekkigaaYa
import Derived.Deep.RegionLaw
namespace Go.Proofs.Ytclmaglkekkigaa.nmc
open Go.RowKit Go.Proofs.Ytclmaglkekkigaa.tlvc Go.Proofs.Ytclmaglkekkigaa.ndc
set_option linter.unusedVariables false
set_option linter.unusedSimpArgs false
theorem below_new (w:World)(o:Obj):Below w.heap.size w (w.alloc o):=(Below.refl _ _).alloc (Nat.le_refl _) _
theorem below_then {B:Nat}{w w1 w2:World}(h:Below B w w1)(k:Below w1.heap.size w1 w2)(hB:B≤w.heap.size):Below B w w2:=h.trans (k.mono (Nat.le_trans hB h.size))
theorem heap_is {W:World}{o:Obj}{k:Nat}(h:k=W.heap.size):(W.alloc o).heap[k]? =some o:=by subst h;exact heap_new_ _ _
end Go.Proofs.Ytclmaglkekkigaa.nmc
namespace Go.Proofs.Ytclmaglkekkigaa.nmc
open Go.RowKit Go.Proofs.Ytclmaglkekkigaa.tlvc Go.Proofs.Ytclmaglkekkigaa.ndc
set_option linter.unusedVariables false
set_option linter.unusedSimpArgs false
end Go.Proofs.Ytclmaglkekkigaa.nmc
namespace Go.Proofs.Ytclmaglkekkigaa.nmc
open Go.RowKit Go.Proofs.Ytclmaglkekkigaa.tlvc Go.Proofs.Ytclmaglkekkigaa.ndc
set_option linter.unusedVariables false
set_option linter.unusedSimpArgs false

end Go.Proofs.Ytclmaglkekkigaa.nmc
namespace Go.Proofs.Ytclmaglkekkigaa.nmc
open Go.RowKit Go.Proofs.Ytclmaglkekkigaa.tlvc Go.Proofs.Ytclmaglkekkigaa.ndc
set_option linter.unusedVariables false
set_option linter.unusedSimpArgs false

end Go.Proofs.Ytclmaglkekkigaa.nmc
namespace Go.Proofs.Ytclmaglkekkigaa.nmc
open Go.RowKit Go.Proofs.Ytclmaglkekkigaa.tlvc Go.Proofs.Ytclmaglkekkigaa.ndc
set_option linter.unusedVariables false
set_option linter.unusedSimpArgs false
end Go.Proofs.Ytclmaglkekkigaa.nmc
namespace Go.Proofs.Ytclmaglkekkigaa.nmc
open Go.RowKit Go.Proofs.Ytclmaglkekkigaa.tlvc Go.Proofs.Ytclmaglkekkigaa.ndc
set_option linter.unusedVariables false
set_option linter.unusedSimpArgs false
end Go.Proofs.Ytclmaglkekkigaa.nmc
