/-
  No cell of these rows narrows 'for every input' (looked for: loops, veiled, ifaces, maps, wideKeys, modest, calm, conditions, laid).
  DERIVED. THE GIVEN ROWS OF THIS SEAT. 4 by the template 'for every input the law returns true; each argument reads behind the call as it read before'; 0 by the template 'total and deterministic' (their statements: YtclmaglkekkigaaTotals.lean).
  GIVEN WITH THE SEED: the statements are not yours to turn. If you find one false, say at which input.
  Laid BY PROGRAM, IN A SANDBOX (cutbox-rows.mjs): the forced cells as the released guide's own fill.sh prints them over the translation c4e71291b4ae8811… (all of the seat's roots in one cut). By AI agents, Wed Nov 11 2026. No macro, syntax, notation, axiom, sorry.
-/
import Derived.Test.YtclmaglkekkigaaChecked
import GoSem.Claim
import GoSem.ClaimJoined
import GoSem.ClaimMapViews
import Derived.JoinedTies
import Derived.KernelRfl
namespace Go.Proofs.Ytclmaglkekkigaa
/- THE CELL 'sum', in the pinned program and in every row, IS THE sha256 OF THE DUMP (.gsa) THAT YtclmaglkekkigaaProg.lean LOADS. Nothing in Lean hashes anything: it is a label: what it is worth is what the hold of that sum in a sandbox is worth. -/
noncomputable def Try.pinned : Pinned := { name := "ytclmaglkekkigaa", sum := "c4e71291b4ae8811808e706ef86ed85e251afdea51a62f1efeb7be5d6617037b", checked := Try.checked }
namespace Rows
def none {H : Type} : Left H := { results := [], args := [] }

/-- 'warderlaw13.SubtreesAllow': WHATEVER THE INPUT: true; the input reads as it did. -/
def subtreesAllowSpec : ChangeSpec := { name := "subtreesAllow", fn := fun _ => fun
  | [d1, d2, d3, d4] => { results := [.lit (.bool true)], args := [d1, d2, d3, d4] }
  | _ => none }
def subtreesAllowRow : OpenClaim := { program := "ytclmaglkekkigaa", sum := "c4e71291b4ae8811808e706ef86ed85e251afdea51a62f1efeb7be5d6617037b", func := "warder/warderlaw13.SubtreesAllow", spec := "subtreesAllow", inPlace := ["internal/abi.NoEscape"], unfollowed := true, recurses := true, apart := false }
def SubtreesAllowSaid : Prop := subtreesAllowRow.holds Try.pinned (OpenSpec.ofChange subtreesAllowSpec)

/-- ITS FALSE NEIGHBOUR: 'it returns false'. Refute it at one input. -/
def subtreesAllowWrong : ChangeSpec := { name := "subtreesAllow", fn := fun _ => fun
  | [d1, d2, d3, d4] => { results := [.lit (.bool false)], args := [d1, d2, d3, d4] }
  | _ => none }
def SubtreesAllowWrongFalsely : Prop := subtreesAllowRow.holds Try.pinned (OpenSpec.ofChange subtreesAllowWrong)

/-- 'warderlaw13.SubtreesNarrow': WHATEVER THE INPUT: true; the input reads as it did. -/
def subtreesNarrowSpec : ChangeSpec := { name := "subtreesNarrow", fn := fun _ => fun
  | [d1, d2, d3, d4] => { results := [.lit (.bool true)], args := [d1, d2, d3, d4] }
  | _ => none }
def subtreesNarrowRow : OpenClaim := { program := "ytclmaglkekkigaa", sum := "c4e71291b4ae8811808e706ef86ed85e251afdea51a62f1efeb7be5d6617037b", func := "warder/warderlaw13.SubtreesNarrow", spec := "subtreesNarrow", inPlace := ["internal/abi.NoEscape"], unfollowed := true, recurses := true, apart := false }
def SubtreesNarrowSaid : Prop := subtreesNarrowRow.holds Try.pinned (OpenSpec.ofChange subtreesNarrowSpec)

/-- ITS FALSE NEIGHBOUR: 'it returns false'. Refute it at one input. -/
def subtreesNarrowWrong : ChangeSpec := { name := "subtreesNarrow", fn := fun _ => fun
  | [d1, d2, d3, d4] => { results := [.lit (.bool false)], args := [d1, d2, d3, d4] }
  | _ => none }
def SubtreesNarrowWrongFalsely : Prop := subtreesNarrowRow.holds Try.pinned (OpenSpec.ofChange subtreesNarrowWrong)

/-- 'warderlaw13.SubtreesBelow': WHATEVER THE INPUT: true; the input reads as it did. -/
def subtreesBelowSpec : ChangeSpec := { name := "subtreesBelow", fn := fun _ => fun
  | [d1, d2, d3] => { results := [.lit (.bool true)], args := [d1, d2, d3] }
  | _ => none }
def subtreesBelowRow : OpenClaim := { program := "ytclmaglkekkigaa", sum := "c4e71291b4ae8811808e706ef86ed85e251afdea51a62f1efeb7be5d6617037b", func := "warder/warderlaw13.SubtreesBelow", spec := "subtreesBelow", inPlace := ["internal/abi.NoEscape"], unfollowed := true, recurses := true, apart := false }
def SubtreesBelowSaid : Prop := subtreesBelowRow.holds Try.pinned (OpenSpec.ofChange subtreesBelowSpec)

/-- ITS FALSE NEIGHBOUR: 'it returns false'. Refute it at one input. -/
def subtreesBelowWrong : ChangeSpec := { name := "subtreesBelow", fn := fun _ => fun
  | [d1, d2, d3] => { results := [.lit (.bool false)], args := [d1, d2, d3] }
  | _ => none }
def SubtreesBelowWrongFalsely : Prop := subtreesBelowRow.holds Try.pinned (OpenSpec.ofChange subtreesBelowWrong)

/-- 'warderlaw13.SubtreesExcluded': WHATEVER THE INPUT: true; the input reads as it did. -/
def subtreesExcludedSpec : ChangeSpec := { name := "subtreesExcluded", fn := fun _ => fun
  | [d1, d2, d3] => { results := [.lit (.bool true)], args := [d1, d2, d3] }
  | _ => none }
def subtreesExcludedRow : OpenClaim := { program := "ytclmaglkekkigaa", sum := "c4e71291b4ae8811808e706ef86ed85e251afdea51a62f1efeb7be5d6617037b", func := "warder/warderlaw13.SubtreesExcluded", spec := "subtreesExcluded", inPlace := ["internal/abi.NoEscape"], unfollowed := true, recurses := true, apart := false }
def SubtreesExcludedSaid : Prop := subtreesExcludedRow.holds Try.pinned (OpenSpec.ofChange subtreesExcludedSpec)

/-- ITS FALSE NEIGHBOUR: 'it returns false'. Refute it at one input. -/
def subtreesExcludedWrong : ChangeSpec := { name := "subtreesExcluded", fn := fun _ => fun
  | [d1, d2, d3] => { results := [.lit (.bool false)], args := [d1, d2, d3] }
  | _ => none }
def SubtreesExcludedWrongFalsely : Prop := subtreesExcludedRow.holds Try.pinned (OpenSpec.ofChange subtreesExcludedWrong)

/- THE SECOND FORM. 'bulk': how many values and letters a reading holds, each counted each time it is reached (what is shared counts as often as it is met; a slice's spare places count too). A statement '..UptoSaid' is the law's where the arguments, and the package variables that the reading takes, are together of bulk at most 1048576: NARROWER than '..Said'. Prove '..Said' where nothing that the law and all that it calls make is longer than what came in: it says more and counts as full. Else prove '..UptoSaid'. A law counts once. -/
mutual
def uptoBulk {H : Type} : DataW H → Nat
  | .lit (.string bytes) => bytes.length + 1
  | .lit _ => 1
  | .nil => 1
  | .ptr d => uptoBulk d + 1
  | .slice elems spare => uptoBulkAll elems + uptoBulkAll spare + 1
  | .agg parts => uptoBulkAll parts + 1
  | .iface _ d => uptoBulk d + 1
  | .map entries => uptoBulkEntries entries + 1
  | .held _ => 1
def uptoBulkAll {H : Type} : List (DataW H) → Nat
  | [] => 0
  | d :: r => uptoBulk d + uptoBulkAll r
def uptoBulkEntries {H : Type} : List (Lit × DataW H) → Nat
  | [] => 0
  | x :: r => uptoBulkEntry x + uptoBulkEntries r
def uptoBulkEntry {H : Type} : Lit × DataW H → Nat
  | (.string bytes, d) => bytes.length + uptoBulk d + 1
  | (_, d) => uptoBulk d + 1
 end
def uptoSmall : (H : Type) → List (DataW H) → Bool := fun _ ds => decide (uptoBulkAll ds ≤ 1048576)
def OpenSpec.upto (s : _root_.Go.ChangeSpec) : _root_.Go.OpenSpec := { _root_.Go.OpenSpec.ofChange s with cond := some uptoSmall }

/-- 'warderlaw13.SubtreesAllow', WHERE WHAT IT READS IS OF BULK AT MOST 1048576: true; the input reads as it did. -/
def subtreesAllowUptoRow : OpenClaim := { program := "ytclmaglkekkigaa", sum := "c4e71291b4ae8811808e706ef86ed85e251afdea51a62f1efeb7be5d6617037b", func := "warder/warderlaw13.SubtreesAllow", spec := "subtreesAllow", inPlace := ["internal/abi.NoEscape"], unfollowed := true, recurses := true, apart := false, narrowed := true }
def SubtreesAllowUptoSaid : Prop := subtreesAllowUptoRow.holds Try.pinned (OpenSpec.upto subtreesAllowSpec)

/-- 'warderlaw13.SubtreesNarrow', WHERE WHAT IT READS IS OF BULK AT MOST 1048576: true; the input reads as it did. -/
def subtreesNarrowUptoRow : OpenClaim := { program := "ytclmaglkekkigaa", sum := "c4e71291b4ae8811808e706ef86ed85e251afdea51a62f1efeb7be5d6617037b", func := "warder/warderlaw13.SubtreesNarrow", spec := "subtreesNarrow", inPlace := ["internal/abi.NoEscape"], unfollowed := true, recurses := true, apart := false, narrowed := true }
def SubtreesNarrowUptoSaid : Prop := subtreesNarrowUptoRow.holds Try.pinned (OpenSpec.upto subtreesNarrowSpec)

/-- 'warderlaw13.SubtreesBelow', WHERE WHAT IT READS IS OF BULK AT MOST 1048576: true; the input reads as it did. -/
def subtreesBelowUptoRow : OpenClaim := { program := "ytclmaglkekkigaa", sum := "c4e71291b4ae8811808e706ef86ed85e251afdea51a62f1efeb7be5d6617037b", func := "warder/warderlaw13.SubtreesBelow", spec := "subtreesBelow", inPlace := ["internal/abi.NoEscape"], unfollowed := true, recurses := true, apart := false, narrowed := true }
def SubtreesBelowUptoSaid : Prop := subtreesBelowUptoRow.holds Try.pinned (OpenSpec.upto subtreesBelowSpec)

/-- 'warderlaw13.SubtreesExcluded', WHERE WHAT IT READS IS OF BULK AT MOST 1048576: true; the input reads as it did. -/
def subtreesExcludedUptoRow : OpenClaim := { program := "ytclmaglkekkigaa", sum := "c4e71291b4ae8811808e706ef86ed85e251afdea51a62f1efeb7be5d6617037b", func := "warder/warderlaw13.SubtreesExcluded", spec := "subtreesExcluded", inPlace := ["internal/abi.NoEscape"], unfollowed := true, recurses := true, apart := false, narrowed := true }
def SubtreesExcludedUptoSaid : Prop := subtreesExcludedUptoRow.holds Try.pinned (OpenSpec.upto subtreesExcludedSpec)

end Rows
end Go.Proofs.Ytclmaglkekkigaa
