/- The reader at a compound value. What comes up from below as a panic, caught: caught and its deferred closure. The reader, whatever the bytes; Parse. -/
import Derived.Test.YtclmaglkekkigaaNb
import Derived.Test.YtclmaglkekkigaaKa
import Derived.Test.YtclmaglkekkigaaProg
import Derived.Tactics
import Derived.Tactics2
import Derived.Defers
import Derived.Recover
import Derived.Laws.Pointers
import Derived.Lib.Hide
import Derived.Lib.Builder
namespace Go.Proofs.Ytclmaglkekkigaa.ndc
open Go.RowKit Go.Proofs.Ytclmaglkekkigaa.tlvc
set_option linter.unusedVariables false
set_option linter.unusedSimpArgs false
end Go.Proofs.Ytclmaglkekkigaa.ndc
namespace Go.Proofs.Ytclmaglkekkigaa.ndc
open Go.RowKit Go.Proofs.Ytclmaglkekkigaa.tlvc
set_option linter.unusedVariables false
theorem heap_old (w:World)(o:Obj){k:Nat}(h:k<w.heap.size):(w.alloc o).heap[k]? =w.heap[k]? :=by show(w.heap.push o)[k]? =_;rw[Array.getElem?_push_lt h];exact(Array.getElem?_eq_getElem h).symm
end Go.Proofs.Ytclmaglkekkigaa.ndc
namespace Go.Proofs.Ytclmaglkekkigaa.ndc
open Go.RowKit Go.Proofs.Ytclmaglkekkigaa.tlvc
set_option linter.unusedVariables false
set_option linter.unusedSimpArgs false
end Go.Proofs.Ytclmaglkekkigaa.ndc
