/-
  NARROWER THAN 'FOR EVERY INPUT', by the rows' own cells (each row's printed sentence says how): NodesPrints: loops, laid · NodesParses: laid · NodesBack: loops, laid · NodesInner: loops, laid · NodesSets: loops, laid · NodesDeep: laid.
  DERIVED. THE GIVEN ROWS OF THIS SEAT. 6 by the template 'for every input the law returns true; each argument reads behind the call as it read before'; 0 by the template 'total and deterministic' (their statements: YtaafgohaikhekaaDoorTotals.lean).
  GIVEN WITH THE SEED: the statements are not yours to turn. If you find one false, say at which input.
  Laid BY PROGRAM, IN A SANDBOX (cutbox-rows.mjs): the forced cells as the released guide's own fill.sh prints them over the translation 1715ca98f1566edc… (all of the seat's roots in one cut). By AI agents, Wed Nov 11 2026. No macro, syntax, notation, axiom, sorry.
-/
import Derived.Test.YtaafgohaikhekaaDoorChecked
import GoSem.PinnedTables
import GoSem.Claim
import GoSem.ClaimJoined
import GoSem.ClaimMapViews
import Derived.JoinedTies
import Derived.KernelRfl
namespace Go.Proofs.YtaafgohaikhekaaDoor
/- THE CELL 'sum', in the pinned program and in every row, IS THE sha256 OF THE DUMP (.gsa) THAT YtaafgohaikhekaaDoorProg.lean LOADS. Nothing in Lean hashes anything: it is a label: what it is worth is what the hold of that sum in a sandbox is worth. -/
noncomputable def Tryd.pinned : Pinned := { name := "ytaafgohaikhekaadoor", sum := "1715ca98f1566edcc638e8b2755aa1699fef0bfb0f9ce25a7812d78211cac2ae", checked := Tryd.checked }
namespace Rows
def none {H : Type} : Left H := { results := [], args := [] }

/- WHAT THE LISTED PACKAGE-LEVEL VARIABLES READ AS WHEN THE CALL BEGINS. Each datum BY PROGRAM (the guide's laid-datum.mjs) off the statement by which the dump's own 'gosem.cut.vars' lays the variable. In a bare row this is a premise. The card (YtaafgohaikhekaaDoorCards.lean) ties it to the program's text. -/
def laid_unicode_utf8_acceptRanges {H : Type} : DataW H := .agg [.agg [.lit (.int .u8 128), .lit (.int .u8 191)], .agg [.lit (.int .u8 160), .lit (.int .u8 191)], .agg [.lit (.int .u8 128), .lit (.int .u8 159)], .agg [.lit (.int .u8 144), .lit (.int .u8 191)], .agg [.lit (.int .u8 128), .lit (.int .u8 143)], .agg [.lit (.int .u8 0), .lit (.int .u8 0)], .agg [.lit (.int .u8 0), .lit (.int .u8 0)], .agg [.lit (.int .u8 0), .lit (.int .u8 0)], .agg [.lit (.int .u8 0), .lit (.int .u8 0)], .agg [.lit (.int .u8 0), .lit (.int .u8 0)], .agg [.lit (.int .u8 0), .lit (.int .u8 0)], .agg [.lit (.int .u8 0), .lit (.int .u8 0)], .agg [.lit (.int .u8 0), .lit (.int .u8 0)], .agg [.lit (.int .u8 0), .lit (.int .u8 0)], .agg [.lit (.int .u8 0), .lit (.int .u8 0)], .agg [.lit (.int .u8 0), .lit (.int .u8 0)]]
/-- One of Go's own tables, pinned by name: the form's constant. -/
def laid_unicode_utf8_first : DataW Unit := Go.Pinned.utf8First

/-- 'warderlaw04.NodesPrints': WHATEVER THE INPUT: true; the input reads as it did. -/
def nodesPrintsSpec : ChangeSpec := { name := "nodesPrints", fn := fun _ => fun
  | [d] => { results := [.lit (.bool true)], args := [d] }
  | _ => none }
def nodesPrintsRow : OpenClaim := { program := "ytaafgohaikhekaadoor", sum := "1715ca98f1566edcc638e8b2755aa1699fef0bfb0f9ce25a7812d78211cac2ae", func := "warder/warderlaw04.NodesPrints", spec := "nodesPrints", inPlace := ["internal/bytealg.Compare"], unfollowed := true, recurses := true, named := ["unicode/utf8.first", "unicode/utf8.acceptRanges"], loops := true, apart := false, laid := [("unicode/utf8.acceptRanges", laid_unicode_utf8_acceptRanges), ("unicode/utf8.first", laid_unicode_utf8_first)] }
def NodesPrintsSaid : Prop := nodesPrintsRow.holds Tryd.pinned (OpenSpec.ofChange nodesPrintsSpec)

/-- ITS FALSE NEIGHBOUR: 'it returns false'. Refute it at one input. -/
def nodesPrintsWrong : ChangeSpec := { name := "nodesPrints", fn := fun _ => fun
  | [d] => { results := [.lit (.bool false)], args := [d] }
  | _ => none }
def NodesPrintsWrongFalsely : Prop := nodesPrintsRow.holds Tryd.pinned (OpenSpec.ofChange nodesPrintsWrong)

/-- 'warderlaw04.NodesParses': WHATEVER THE INPUT: true; the input reads as it did. -/
def nodesParsesSpec : ChangeSpec := { name := "nodesParses", fn := fun _ => fun
  | [d] => { results := [.lit (.bool true)], args := [d] }
  | _ => none }
def nodesParsesRow : OpenClaim := { program := "ytaafgohaikhekaadoor", sum := "1715ca98f1566edcc638e8b2755aa1699fef0bfb0f9ce25a7812d78211cac2ae", func := "warder/warderlaw04.NodesParses", spec := "nodesParses", inPlace := ["internal/bytealg.Compare"], unfollowed := true, recurses := true, named := ["unicode/utf8.first", "unicode/utf8.acceptRanges"], apart := false, laid := [("unicode/utf8.acceptRanges", laid_unicode_utf8_acceptRanges), ("unicode/utf8.first", laid_unicode_utf8_first)] }
def NodesParsesSaid : Prop := nodesParsesRow.holds Tryd.pinned (OpenSpec.ofChange nodesParsesSpec)

/-- ITS FALSE NEIGHBOUR: 'it returns false'. Refute it at one input. -/
def nodesParsesWrong : ChangeSpec := { name := "nodesParses", fn := fun _ => fun
  | [d] => { results := [.lit (.bool false)], args := [d] }
  | _ => none }
def NodesParsesWrongFalsely : Prop := nodesParsesRow.holds Tryd.pinned (OpenSpec.ofChange nodesParsesWrong)

/-- 'warderlaw04.NodesBack': WHATEVER THE INPUT: true; the input reads as it did. -/
def nodesBackSpec : ChangeSpec := { name := "nodesBack", fn := fun _ => fun
  | [d1, d2] => { results := [.lit (.bool true)], args := [d1, d2] }
  | _ => none }
def nodesBackRow : OpenClaim := { program := "ytaafgohaikhekaadoor", sum := "1715ca98f1566edcc638e8b2755aa1699fef0bfb0f9ce25a7812d78211cac2ae", func := "warder/warderlaw04.NodesBack", spec := "nodesBack", inPlace := ["internal/bytealg.Compare"], unfollowed := true, recurses := true, named := ["unicode/utf8.first", "unicode/utf8.acceptRanges"], loops := true, apart := false, laid := [("unicode/utf8.acceptRanges", laid_unicode_utf8_acceptRanges), ("unicode/utf8.first", laid_unicode_utf8_first)] }
def NodesBackSaid : Prop := nodesBackRow.holds Tryd.pinned (OpenSpec.ofChange nodesBackSpec)

/-- ITS FALSE NEIGHBOUR: 'it returns false'. Refute it at one input. -/
def nodesBackWrong : ChangeSpec := { name := "nodesBack", fn := fun _ => fun
  | [d1, d2] => { results := [.lit (.bool false)], args := [d1, d2] }
  | _ => none }
def NodesBackWrongFalsely : Prop := nodesBackRow.holds Tryd.pinned (OpenSpec.ofChange nodesBackWrong)

/-- 'warderlaw04.NodesInner': WHATEVER THE INPUT: true; the input reads as it did. -/
def nodesInnerSpec : ChangeSpec := { name := "nodesInner", fn := fun _ => fun
  | [d1, d2, d3] => { results := [.lit (.bool true)], args := [d1, d2, d3] }
  | _ => none }
def nodesInnerRow : OpenClaim := { program := "ytaafgohaikhekaadoor", sum := "1715ca98f1566edcc638e8b2755aa1699fef0bfb0f9ce25a7812d78211cac2ae", func := "warder/warderlaw04.NodesInner", spec := "nodesInner", inPlace := ["internal/bytealg.Compare"], unfollowed := true, recurses := true, named := ["unicode/utf8.first", "unicode/utf8.acceptRanges"], loops := true, apart := false, laid := [("unicode/utf8.acceptRanges", laid_unicode_utf8_acceptRanges), ("unicode/utf8.first", laid_unicode_utf8_first)] }
def NodesInnerSaid : Prop := nodesInnerRow.holds Tryd.pinned (OpenSpec.ofChange nodesInnerSpec)

/-- ITS FALSE NEIGHBOUR: 'it returns false'. Refute it at one input. -/
def nodesInnerWrong : ChangeSpec := { name := "nodesInner", fn := fun _ => fun
  | [d1, d2, d3] => { results := [.lit (.bool false)], args := [d1, d2, d3] }
  | _ => none }
def NodesInnerWrongFalsely : Prop := nodesInnerRow.holds Tryd.pinned (OpenSpec.ofChange nodesInnerWrong)

/-- 'warderlaw04.NodesSets': WHATEVER THE INPUT: true; the input reads as it did. -/
def nodesSetsSpec : ChangeSpec := { name := "nodesSets", fn := fun _ => fun
  | [d1, d2] => { results := [.lit (.bool true)], args := [d1, d2] }
  | _ => none }
def nodesSetsRow : OpenClaim := { program := "ytaafgohaikhekaadoor", sum := "1715ca98f1566edcc638e8b2755aa1699fef0bfb0f9ce25a7812d78211cac2ae", func := "warder/warderlaw04.NodesSets", spec := "nodesSets", inPlace := ["internal/bytealg.Compare"], unfollowed := true, recurses := true, named := ["unicode/utf8.first", "unicode/utf8.acceptRanges"], loops := true, apart := false, laid := [("unicode/utf8.acceptRanges", laid_unicode_utf8_acceptRanges), ("unicode/utf8.first", laid_unicode_utf8_first)] }
def NodesSetsSaid : Prop := nodesSetsRow.holds Tryd.pinned (OpenSpec.ofChange nodesSetsSpec)

/-- ITS FALSE NEIGHBOUR: 'it returns false'. Refute it at one input. -/
def nodesSetsWrong : ChangeSpec := { name := "nodesSets", fn := fun _ => fun
  | [d1, d2] => { results := [.lit (.bool false)], args := [d1, d2] }
  | _ => none }
def NodesSetsWrongFalsely : Prop := nodesSetsRow.holds Tryd.pinned (OpenSpec.ofChange nodesSetsWrong)

/-- 'warderlaw04.NodesDeep': WHATEVER THE INPUT: true; the input reads as it did. -/
def nodesDeepSpec : ChangeSpec := { name := "nodesDeep", fn := fun _ => fun
  | [d1, d2] => { results := [.lit (.bool true)], args := [d1, d2] }
  | _ => none }
def nodesDeepRow : OpenClaim := { program := "ytaafgohaikhekaadoor", sum := "1715ca98f1566edcc638e8b2755aa1699fef0bfb0f9ce25a7812d78211cac2ae", func := "warder/warderlaw04.NodesDeep", spec := "nodesDeep", inPlace := ["internal/bytealg.Compare"], unfollowed := true, recurses := true, named := ["unicode/utf8.first", "unicode/utf8.acceptRanges"], apart := false, laid := [("unicode/utf8.acceptRanges", laid_unicode_utf8_acceptRanges), ("unicode/utf8.first", laid_unicode_utf8_first)] }
def NodesDeepSaid : Prop := nodesDeepRow.holds Tryd.pinned (OpenSpec.ofChange nodesDeepSpec)

/-- ITS FALSE NEIGHBOUR: 'it returns false'. Refute it at one input. -/
def nodesDeepWrong : ChangeSpec := { name := "nodesDeep", fn := fun _ => fun
  | [d1, d2] => { results := [.lit (.bool false)], args := [d1, d2] }
  | _ => none }
def NodesDeepWrongFalsely : Prop := nodesDeepRow.holds Tryd.pinned (OpenSpec.ofChange nodesDeepWrong)

/- THE SECOND FORM. 'bulk': how many values and letters a reading holds, each counted each time it is reached (what is shared counts as often as it is met; a slice's spare places count too). A statement '..UptoSaid' is the law's where the arguments, and the package variables that the reading takes, are together of bulk at most 1048576: NARROWER than '..Said'. Prove '..Said' where nothing that the law and all that it calls make is longer than what came in: it says more and counts as full. Else prove '..UptoSaid'. A law counts once. -/
mutual
def uptoBulk {H : Type} : DataW H → Nat
  | .lit (.string bytes) => bytes.length + 1
  | .lit _ => 1
  | .nil => 1
  | .ptr d => uptoBulk d + 1
  | .slice elems spare => uptoBulkAll elems + uptoBulkAll spare + 1
  | .agg parts => uptoBulkAll parts + 1
  | .iface _ d => uptoBulk d + 1
  | .map entries => uptoBulkEntries entries + 1
  | .held _ => 1
def uptoBulkAll {H : Type} : List (DataW H) → Nat
  | [] => 0
  | d :: r => uptoBulk d + uptoBulkAll r
def uptoBulkEntries {H : Type} : List (Lit × DataW H) → Nat
  | [] => 0
  | x :: r => uptoBulkEntry x + uptoBulkEntries r
def uptoBulkEntry {H : Type} : Lit × DataW H → Nat
  | (.string bytes, d) => bytes.length + uptoBulk d + 1
  | (_, d) => uptoBulk d + 1
 end
def uptoSmall : (H : Type) → List (DataW H) → Bool := fun _ ds => decide (uptoBulkAll ds ≤ 1048576)
def OpenSpec.upto (s : _root_.Go.ChangeSpec) : _root_.Go.OpenSpec := { _root_.Go.OpenSpec.ofChange s with cond := some uptoSmall }

/-- 'warderlaw04.NodesPrints', WHERE WHAT IT READS IS OF BULK AT MOST 1048576: true; the input reads as it did. -/
def nodesPrintsUptoRow : OpenClaim := { program := "ytaafgohaikhekaadoor", sum := "1715ca98f1566edcc638e8b2755aa1699fef0bfb0f9ce25a7812d78211cac2ae", func := "warder/warderlaw04.NodesPrints", spec := "nodesPrints", inPlace := ["internal/bytealg.Compare"], unfollowed := true, recurses := true, named := ["unicode/utf8.first", "unicode/utf8.acceptRanges"], loops := true, apart := false, laid := [("unicode/utf8.acceptRanges", laid_unicode_utf8_acceptRanges), ("unicode/utf8.first", laid_unicode_utf8_first)], narrowed := true }
def NodesPrintsUptoSaid : Prop := nodesPrintsUptoRow.holds Tryd.pinned (OpenSpec.upto nodesPrintsSpec)

/-- 'warderlaw04.NodesParses', WHERE WHAT IT READS IS OF BULK AT MOST 1048576: true; the input reads as it did. -/
def nodesParsesUptoRow : OpenClaim := { program := "ytaafgohaikhekaadoor", sum := "1715ca98f1566edcc638e8b2755aa1699fef0bfb0f9ce25a7812d78211cac2ae", func := "warder/warderlaw04.NodesParses", spec := "nodesParses", inPlace := ["internal/bytealg.Compare"], unfollowed := true, recurses := true, named := ["unicode/utf8.first", "unicode/utf8.acceptRanges"], apart := false, laid := [("unicode/utf8.acceptRanges", laid_unicode_utf8_acceptRanges), ("unicode/utf8.first", laid_unicode_utf8_first)], narrowed := true }
def NodesParsesUptoSaid : Prop := nodesParsesUptoRow.holds Tryd.pinned (OpenSpec.upto nodesParsesSpec)

/-- 'warderlaw04.NodesBack', WHERE WHAT IT READS IS OF BULK AT MOST 1048576: true; the input reads as it did. -/
def nodesBackUptoRow : OpenClaim := { program := "ytaafgohaikhekaadoor", sum := "1715ca98f1566edcc638e8b2755aa1699fef0bfb0f9ce25a7812d78211cac2ae", func := "warder/warderlaw04.NodesBack", spec := "nodesBack", inPlace := ["internal/bytealg.Compare"], unfollowed := true, recurses := true, named := ["unicode/utf8.first", "unicode/utf8.acceptRanges"], loops := true, apart := false, laid := [("unicode/utf8.acceptRanges", laid_unicode_utf8_acceptRanges), ("unicode/utf8.first", laid_unicode_utf8_first)], narrowed := true }
def NodesBackUptoSaid : Prop := nodesBackUptoRow.holds Tryd.pinned (OpenSpec.upto nodesBackSpec)

/-- 'warderlaw04.NodesInner', WHERE WHAT IT READS IS OF BULK AT MOST 1048576: true; the input reads as it did. -/
def nodesInnerUptoRow : OpenClaim := { program := "ytaafgohaikhekaadoor", sum := "1715ca98f1566edcc638e8b2755aa1699fef0bfb0f9ce25a7812d78211cac2ae", func := "warder/warderlaw04.NodesInner", spec := "nodesInner", inPlace := ["internal/bytealg.Compare"], unfollowed := true, recurses := true, named := ["unicode/utf8.first", "unicode/utf8.acceptRanges"], loops := true, apart := false, laid := [("unicode/utf8.acceptRanges", laid_unicode_utf8_acceptRanges), ("unicode/utf8.first", laid_unicode_utf8_first)], narrowed := true }
def NodesInnerUptoSaid : Prop := nodesInnerUptoRow.holds Tryd.pinned (OpenSpec.upto nodesInnerSpec)

/-- 'warderlaw04.NodesSets', WHERE WHAT IT READS IS OF BULK AT MOST 1048576: true; the input reads as it did. -/
def nodesSetsUptoRow : OpenClaim := { program := "ytaafgohaikhekaadoor", sum := "1715ca98f1566edcc638e8b2755aa1699fef0bfb0f9ce25a7812d78211cac2ae", func := "warder/warderlaw04.NodesSets", spec := "nodesSets", inPlace := ["internal/bytealg.Compare"], unfollowed := true, recurses := true, named := ["unicode/utf8.first", "unicode/utf8.acceptRanges"], loops := true, apart := false, laid := [("unicode/utf8.acceptRanges", laid_unicode_utf8_acceptRanges), ("unicode/utf8.first", laid_unicode_utf8_first)], narrowed := true }
def NodesSetsUptoSaid : Prop := nodesSetsUptoRow.holds Tryd.pinned (OpenSpec.upto nodesSetsSpec)

/-- 'warderlaw04.NodesDeep', WHERE WHAT IT READS IS OF BULK AT MOST 1048576: true; the input reads as it did. -/
def nodesDeepUptoRow : OpenClaim := { program := "ytaafgohaikhekaadoor", sum := "1715ca98f1566edcc638e8b2755aa1699fef0bfb0f9ce25a7812d78211cac2ae", func := "warder/warderlaw04.NodesDeep", spec := "nodesDeep", inPlace := ["internal/bytealg.Compare"], unfollowed := true, recurses := true, named := ["unicode/utf8.first", "unicode/utf8.acceptRanges"], apart := false, laid := [("unicode/utf8.acceptRanges", laid_unicode_utf8_acceptRanges), ("unicode/utf8.first", laid_unicode_utf8_first)], narrowed := true }
def NodesDeepUptoSaid : Prop := nodesDeepUptoRow.holds Tryd.pinned (OpenSpec.upto nodesDeepSpec)

end Rows
end Go.Proofs.YtaafgohaikhekaaDoor
