/- The document's Kids, plain and OidOf. The document's reading -/
import Derived.Test.YtconbejjagcnkaaDoorYb
import Derived.Test.YtconbejjagcnkaaDoorId
import Derived.Lib.QuietBelow
import Derived.BigQuiet
import Derived.Test.YtconbejjagcnkaaDoorYc
import Derived.Test.YtconbejjagcnkaaDoorYg
set_option maxRecDepth 100000
set_option maxHeartbeats 4000000
set_option linter.unusedVariables false
set_option linter.unusedSimpArgs false
namespace Go.Proofs.YtconbejjagcnkaaDoor.nmc
open Go.RowKit tlvc tlvd ndc txc txm intc intm
def kidsB (n:Nd)(many:Int):Bool:=decide (n.tag=48) && (decide (n.body.length=0) && (decide (many<0) || decide ((n.kids.length:Int)=many)))
theorem box3_ {W0 W:World}(h:Below W0.heap.size W0 W){g:Nat}{a b c:Value}{T:TypeId}{fr:Nat × Nat}(hq:W0.heap[g]? =some (.cells #[a,b,c] T fr)):W.cell? ⟨g,0,none⟩=some a∧W.cell? ⟨g,1,none⟩=some b∧W.cell? ⟨g,2,none⟩=some c:=by
 have hq:=(h.block g (Array.getElem?_eq_some_iff.1 hq).1).trans hq
 exact⟨(ch_ hq _).trans rfl,(ch_ hq _).trans rfl,(ch_ hq _).trans rfl⟩
end Go.Proofs.YtconbejjagcnkaaDoor.nmc
namespace Go.Proofs.YtconbejjagcnkaaDoor.nmc
open Go.RowKit tlvc tlvd ndc txc txm intc intm
end Go.Proofs.YtconbejjagcnkaaDoor.nmc
namespace Go.Proofs.YtconbejjagcnkaaDoor.nmc
open Go.RowKit tlvc tlvd ndc txc txm intc intm
end Go.Proofs.YtconbejjagcnkaaDoor.nmc
