/- The document's node of a name. The document's node of a prin -/
import Derived.Test.YtconbejjagcnkaaDoorYc
set_option linter.unusedVariables false
set_option linter.unusedSimpArgs false
namespace Go.Proofs.YtconbejjagcnkaaDoor.nmc
open Go.RowKit tlvc tlvd ndc txc txm intc intm
end Go.Proofs.YtconbejjagcnkaaDoor.nmc
namespace Go.Proofs.YtconbejjagcnkaaDoor.nmc
open Go.RowKit tlvc tlvd ndc txc txm intc intm
theorem nameF_of (l:List At):nameF l=if rightN l=true then some (nameN l) else none:=rfl
theorem PrC.below {B:Nat→Prop}{w w':World}{p:Pr}{c0 c1:Value}(h:PrC B w p c0 c1)(hb:Below w.heap.size w w'):PrC B w' p c0 c1:=by
 obtain⟨A,c,h0,h1,h2,h3,h4,h5⟩:=h
 exact⟨A,c,h0,h1,h2,h3,h4.below hb,h5⟩
theorem princF_of (p:Pr):princF p=if rightP p=true then some (princN p) else none:=rfl
end Go.Proofs.YtconbejjagcnkaaDoor.nmc
