/- The live question of warderlaw02; Same of the document. Plain facts on the document's reading of an object's body: each way out of its loops. The document's OID. -/
import Derived.Test.YtdcpggodlggjjaaGreatDoorIc
namespace Go.Proofs.YtdcpggodlggjjaaGreatDoor.intc
open Go.RowKit Go.Proofs.YtdcpggodlggjjaaGreatDoor.tlvc Go.Proofs.YtdcpggodlggjjaaGreatDoor.intm
set_option linter.unusedVariables false
theorem drewN_add (w : World) (q r : Nat) : (w.drewN q).drewN r = w.drewN (q + r) := by
 unfold World.drewN; simp [Nat.add_assoc]
theorem same_step {xs ys : List Int} {k : Nat} (h : xs.take k = ys.take k) (hx : k < xs.length) (hy : k < ys.length) (he : xs.getD k 0 = ys.getD k 0) : xs.take (k + 1) = ys.take (k + 1) := by
 rw [List.take_succ_eq_append_getElem hx, List.take_succ_eq_append_getElem hy, h]
 simp only [List.getD_eq_getElem?_getD, List.getElem?_eq_getElem hx, List.getElem?_eq_getElem hy, Option.getD_some] at he
 rw [he]
end Go.Proofs.YtdcpggodlggjjaaGreatDoor.intc
namespace Go.Proofs.YtdcpggodlggjjaaGreatDoor.intm
set_option linter.unusedVariables false
/-- Of the bytes xs the first at are the numbers ns. -/
structure Read (xs : List Int) (at_ : Nat) (ns : List Int) : Prop where
 le : at_ ≤ xs.length
 told : body ns = xs.take at_
 arcs : ∀ n ∈ ns, Arc n
 few : ns.length ≤ 15
variable {xs ns : List Int} {a : Nat}
end Go.Proofs.YtdcpggodlggjjaaGreatDoor.intm
namespace Go.Proofs.YtdcpggodlggjjaaGreatDoor.intc
open Go.RowKit Go.Proofs.YtdcpggodlggjjaaGreatDoor.tlvc Go.Proofs.YtdcpggodlggjjaaGreatDoor.intm
set_option linter.unusedVariables false
/-- What is out, at the outer loop's head. -/
structure OutRow (B : Nat) (w : World) (ns : List Int) (v : Value) (wr : World) : Prop where
 own : wr.ownsRow B 3 1 v (unnum ns).length (ivals (unnum ns))
 nil_ : ns = [] → v = .slice none 0 0
 below : Below B w wr
end Go.Proofs.YtdcpggodlggjjaaGreatDoor.intc
