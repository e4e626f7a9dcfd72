/- The document's node of a name. The document's node of a principal; its Put and PutPrinc. -/
import Derived.Test.YtdcpggodlggjjaaGreatDoorYc
namespace Go.Proofs.YtdcpggodlggjjaaGreatDoor.nmc
open Go.RowKit Go.Proofs.YtdcpggodlggjjaaGreatDoor.tlvc Go.Proofs.YtdcpggodlggjjaaGreatDoor.tlvd Go.Proofs.YtdcpggodlggjjaaGreatDoor.ndc Go.Proofs.YtdcpggodlggjjaaGreatDoor.txc Go.Proofs.YtdcpggodlggjjaaGreatDoor.txm Go.Proofs.YtdcpggodlggjjaaGreatDoor.intc Go.Proofs.YtdcpggodlggjjaaGreatDoor.intm
set_option linter.unusedVariables false
set_option linter.unusedSimpArgs false
end Go.Proofs.YtdcpggodlggjjaaGreatDoor.nmc
namespace Go.Proofs.YtdcpggodlggjjaaGreatDoor.nmc
open Go.RowKit Go.Proofs.YtdcpggodlggjjaaGreatDoor.tlvc Go.Proofs.YtdcpggodlggjjaaGreatDoor.tlvd Go.Proofs.YtdcpggodlggjjaaGreatDoor.ndc Go.Proofs.YtdcpggodlggjjaaGreatDoor.txc Go.Proofs.YtdcpggodlggjjaaGreatDoor.txm Go.Proofs.YtdcpggodlggjjaaGreatDoor.intc Go.Proofs.YtdcpggodlggjjaaGreatDoor.intm
set_option linter.unusedVariables false
set_option linter.unusedSimpArgs false
theorem nameF_of (l : List At) : nameF l = if rightN l = true then some (nameN l) else none := rfl
theorem PrC.below {B : Nat → Prop} {w w' : World} {p : Pr} {c0 c1 : Value} (h : PrC B w p c0 c1) (hb : Below w.heap.size w w') : PrC B w' p c0 c1 := by
 obtain ⟨A, c, h0, h1, h2, h3, h4, h5⟩ := h
 exact ⟨A, c, h0, h1, h2, h3, h4.below hb, h5⟩
theorem princF_of (p : Pr) : princF p = if rightP p = true then some (princN p) else none := rfl
end Go.Proofs.YtdcpggodlggjjaaGreatDoor.nmc
