/- The live question of warderlaw02; Same of the document. Plai -/
import Derived.Test.YtconbejjagcnkaaDoorIc
set_option linter.unusedVariables false
set_option linter.unusedSimpArgs false
namespace Go.Proofs.YtconbejjagcnkaaDoor.intc
open Go.RowKit tlvc intm
theorem drewN_add (w:World)(q r:Nat):(w.drewN q).drewN r=w.drewN (q+r):=by
 unfold World.drewN;simp[Nat.add_assoc]
theorem same_step {xs ys:List Int}{k:Nat}(h:xs.take k=ys.take k)(hx:k<xs.length)(hy:k<ys.length)(he:xs.getD k 0=ys.getD k 0):xs.take (k+1)=ys.take (k+1):=by
 rw[List.take_succ_eq_append_getElem hx,List.take_succ_eq_append_getElem hy,h]
 simp only[List.getD_eq_getElem?_getD,List.getElem?_eq_getElem hx,List.getElem?_eq_getElem hy,Option.getD_some] at he
 rw[he]
end Go.Proofs.YtconbejjagcnkaaDoor.intc
namespace Go.Proofs.YtconbejjagcnkaaDoor.intm
structure Read (xs:List Int) (at_:Nat) (ns:List Int):Prop where
 le:at_≤xs.length
 told:body ns=xs.take at_
 arcs: ∀n∈ns,Arc n
 few:ns.length≤15
variable {xs ns:List Int} {a:Nat}
end Go.Proofs.YtconbejjagcnkaaDoor.intm
namespace Go.Proofs.YtconbejjagcnkaaDoor.intc
open Go.RowKit tlvc intm
structure OutRow (B:Nat) (w:World) (ns:List Int) (v:Value) (wr:World):Prop where
 own:wr.ownsRow B 3 1 v (unnum ns).length (ivals (unnum ns))
 nil_:ns=[]→v=.slice none 0 0
 below:Below B w wr
end Go.Proofs.YtconbejjagcnkaaDoor.intc
