/- Names held against one another: the document's Same, Under a -/
import Derived.Test.YtdcpggodlggjjaaGreatDoorYe
import Derived.Lib.QuietBelow
import Derived.BigQuiet
set_option linter.unusedVariables false
set_option linter.unusedSimpArgs false
namespace Go.Proofs.YtdcpggodlggjjaaGreatDoor.nmc
open Go.RowKit tlvc tlvd ndc txc txm intc intm
end Go.Proofs.YtdcpggodlggjjaaGreatDoor.nmc
namespace Go.Proofs.YtdcpggodlggjjaaGreatDoor.nmc
open Go.RowKit tlvc tlvd ndc txc txm intc intm
theorem ins_lit {w : World} (cs : List Int) (e : TypeId) (fr : Nat × Nat) (hf : Fit8 cs) : Ins (w.alloc (.cells (cs.map (Value.int .i64)).toArray e fr)) (some ⟨w.heap.size, 0, none⟩) cs.length cs := by
 refine ⟨rfl, hf, fun _ => ⟨_, _, rfl, by simp, fun j hj => ?_⟩⟩
 rw [Nat.zero_add, World.cell?_alloc_mark]
 simp [List.getD_eq_getElem?_getD, List.getElem?_eq_getElem hj]
end Go.Proofs.YtdcpggodlggjjaaGreatDoor.nmc
