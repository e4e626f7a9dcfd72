/-
  NARROWER THAN 'FOR EVERY INPUT', by the rows' own cells (each row's printed sentence says how): ExtsPut: laid · ExtsGet: loops, laid · ExtsBack: loops, laid · ExtsTurned: laid · ExtsPaths: laid.
  DERIVED. THE GIVEN ROWS OF THIS SEAT. 5 by the template 'for every input the law returns true; each argument reads behind the call as it read before'; 0 by the template 'total and deterministic' (their statements: YtdcpggodlggjjaaGreatDoorTotals.lean).
  GIVEN WITH THE SEED: the statements are not yours to turn. If you find one false, say at which input.
  Laid BY PROGRAM, IN A SANDBOX (cutbox-rows.mjs): the forced cells as the released guide's own fill.sh prints them over the translation 94dfc2a4425fc7c5… (all of the seat's roots in one cut). By AI agents, Wed Nov 11 2026. No macro, syntax, notation, axiom, sorry.
-/
import Derived.Test.YtdcpggodlggjjaaGreatDoorChecked
import GoSem.PinnedTables
import GoSem.Claim
import GoSem.ClaimJoined
import GoSem.ClaimMapViews
import Derived.JoinedTies
import Derived.KernelRfl
namespace Go.Proofs.YtdcpggodlggjjaaGreatDoor
/- THE CELL 'sum', in the pinned program and in every row, IS THE sha256 OF THE DUMP (.gsa) THAT YtdcpggodlggjjaaGreatDoorProg.lean LOADS. Nothing in Lean hashes anything: it is a label: what it is worth is what the hold of that sum in a sandbox is worth. -/
noncomputable def Tryz.pinned : Pinned := { name := "ytdcpggodlggjjaagreatdoor", sum := "94dfc2a4425fc7c5835eaaf8cb529823ae1e89120f475e7b3e140f229157b95c", checked := Tryz.checked }
namespace Rows
def none {H : Type} : Left H := { results := [], args := [] }

/- WHAT THE LISTED PACKAGE-LEVEL VARIABLES READ AS WHEN THE CALL BEGINS. Each datum BY PROGRAM (the guide's laid-datum.mjs) off the statement by which the dump's own 'gosem.cut.vars' lays the variable. In a bare row this is a premise. The card (YtdcpggodlggjjaaGreatDoorCards.lean) ties it to the program's text. -/
def laid_unicode_utf8_acceptRanges {H : Type} : DataW H := .agg [.agg [.lit (.int .u8 128), .lit (.int .u8 191)], .agg [.lit (.int .u8 160), .lit (.int .u8 191)], .agg [.lit (.int .u8 128), .lit (.int .u8 159)], .agg [.lit (.int .u8 144), .lit (.int .u8 191)], .agg [.lit (.int .u8 128), .lit (.int .u8 143)], .agg [.lit (.int .u8 0), .lit (.int .u8 0)], .agg [.lit (.int .u8 0), .lit (.int .u8 0)], .agg [.lit (.int .u8 0), .lit (.int .u8 0)], .agg [.lit (.int .u8 0), .lit (.int .u8 0)], .agg [.lit (.int .u8 0), .lit (.int .u8 0)], .agg [.lit (.int .u8 0), .lit (.int .u8 0)], .agg [.lit (.int .u8 0), .lit (.int .u8 0)], .agg [.lit (.int .u8 0), .lit (.int .u8 0)], .agg [.lit (.int .u8 0), .lit (.int .u8 0)], .agg [.lit (.int .u8 0), .lit (.int .u8 0)], .agg [.lit (.int .u8 0), .lit (.int .u8 0)]]
/-- One of Go's own tables, pinned by name: the form's constant. -/
def laid_unicode_utf8_first : DataW Unit := Go.Pinned.utf8First

/-- 'warderlaw10.ExtsPut': WHATEVER THE INPUT: true; the input reads as it did. -/
def extsPutSpec : ChangeSpec := { name := "extsPut", fn := fun _ => fun
  | [d] => { results := [.lit (.bool true)], args := [d] }
  | _ => none }
def extsPutRow : OpenClaim := { program := "ytdcpggodlggjjaagreatdoor", sum := "94dfc2a4425fc7c5835eaaf8cb529823ae1e89120f475e7b3e140f229157b95c", func := "warder/warderlaw10.ExtsPut", spec := "extsPut", inPlace := ["internal/bytealg.Compare"], unfollowed := true, recurses := true, named := ["unicode/utf8.first", "unicode/utf8.acceptRanges"], apart := false, laid := [("unicode/utf8.acceptRanges", laid_unicode_utf8_acceptRanges), ("unicode/utf8.first", laid_unicode_utf8_first)] }
def ExtsPutSaid : Prop := extsPutRow.holds Tryz.pinned (OpenSpec.ofChange extsPutSpec)

/-- ITS FALSE NEIGHBOUR: 'it returns false'. Refute it at one input. -/
def extsPutWrong : ChangeSpec := { name := "extsPut", fn := fun _ => fun
  | [d] => { results := [.lit (.bool false)], args := [d] }
  | _ => none }
def ExtsPutWrongFalsely : Prop := extsPutRow.holds Tryz.pinned (OpenSpec.ofChange extsPutWrong)

/-- 'warderlaw10.ExtsGet': WHATEVER THE INPUT: true; the input reads as it did. -/
def extsGetSpec : ChangeSpec := { name := "extsGet", fn := fun _ => fun
  | [d] => { results := [.lit (.bool true)], args := [d] }
  | _ => none }
def extsGetRow : OpenClaim := { program := "ytdcpggodlggjjaagreatdoor", sum := "94dfc2a4425fc7c5835eaaf8cb529823ae1e89120f475e7b3e140f229157b95c", func := "warder/warderlaw10.ExtsGet", spec := "extsGet", inPlace := ["internal/bytealg.Compare"], unfollowed := true, recurses := true, named := ["unicode/utf8.first", "unicode/utf8.acceptRanges"], loops := true, apart := false, laid := [("unicode/utf8.acceptRanges", laid_unicode_utf8_acceptRanges), ("unicode/utf8.first", laid_unicode_utf8_first)] }
def ExtsGetSaid : Prop := extsGetRow.holds Tryz.pinned (OpenSpec.ofChange extsGetSpec)

/-- ITS FALSE NEIGHBOUR: 'it returns false'. Refute it at one input. -/
def extsGetWrong : ChangeSpec := { name := "extsGet", fn := fun _ => fun
  | [d] => { results := [.lit (.bool false)], args := [d] }
  | _ => none }
def ExtsGetWrongFalsely : Prop := extsGetRow.holds Tryz.pinned (OpenSpec.ofChange extsGetWrong)

/-- 'warderlaw10.ExtsBack': WHATEVER THE INPUT: true; the input reads as it did. -/
def extsBackSpec : ChangeSpec := { name := "extsBack", fn := fun _ => fun
  | [d1, d2] => { results := [.lit (.bool true)], args := [d1, d2] }
  | _ => none }
def extsBackRow : OpenClaim := { program := "ytdcpggodlggjjaagreatdoor", sum := "94dfc2a4425fc7c5835eaaf8cb529823ae1e89120f475e7b3e140f229157b95c", func := "warder/warderlaw10.ExtsBack", spec := "extsBack", inPlace := ["internal/bytealg.Compare"], unfollowed := true, recurses := true, named := ["unicode/utf8.first", "unicode/utf8.acceptRanges"], loops := true, apart := false, laid := [("unicode/utf8.acceptRanges", laid_unicode_utf8_acceptRanges), ("unicode/utf8.first", laid_unicode_utf8_first)] }
def ExtsBackSaid : Prop := extsBackRow.holds Tryz.pinned (OpenSpec.ofChange extsBackSpec)

/-- ITS FALSE NEIGHBOUR: 'it returns false'. Refute it at one input. -/
def extsBackWrong : ChangeSpec := { name := "extsBack", fn := fun _ => fun
  | [d1, d2] => { results := [.lit (.bool false)], args := [d1, d2] }
  | _ => none }
def ExtsBackWrongFalsely : Prop := extsBackRow.holds Tryz.pinned (OpenSpec.ofChange extsBackWrong)

/-- 'warderlaw10.ExtsTurned': WHATEVER THE INPUT: true; the input reads as it did. -/
def extsTurnedSpec : ChangeSpec := { name := "extsTurned", fn := fun _ => fun
  | [d1, d2] => { results := [.lit (.bool true)], args := [d1, d2] }
  | _ => none }
def extsTurnedRow : OpenClaim := { program := "ytdcpggodlggjjaagreatdoor", sum := "94dfc2a4425fc7c5835eaaf8cb529823ae1e89120f475e7b3e140f229157b95c", func := "warder/warderlaw10.ExtsTurned", spec := "extsTurned", inPlace := ["internal/bytealg.Compare"], unfollowed := true, recurses := true, named := ["unicode/utf8.first", "unicode/utf8.acceptRanges"], apart := false, laid := [("unicode/utf8.acceptRanges", laid_unicode_utf8_acceptRanges), ("unicode/utf8.first", laid_unicode_utf8_first)] }
def ExtsTurnedSaid : Prop := extsTurnedRow.holds Tryz.pinned (OpenSpec.ofChange extsTurnedSpec)

/-- ITS FALSE NEIGHBOUR: 'it returns false'. Refute it at one input. -/
def extsTurnedWrong : ChangeSpec := { name := "extsTurned", fn := fun _ => fun
  | [d1, d2] => { results := [.lit (.bool false)], args := [d1, d2] }
  | _ => none }
def ExtsTurnedWrongFalsely : Prop := extsTurnedRow.holds Tryz.pinned (OpenSpec.ofChange extsTurnedWrong)

/-- 'warderlaw10.ExtsPaths': WHATEVER THE INPUT: true; the input reads as it did. -/
def extsPathsSpec : ChangeSpec := { name := "extsPaths", fn := fun _ => fun
  | [d1, d2, d3] => { results := [.lit (.bool true)], args := [d1, d2, d3] }
  | _ => none }
def extsPathsRow : OpenClaim := { program := "ytdcpggodlggjjaagreatdoor", sum := "94dfc2a4425fc7c5835eaaf8cb529823ae1e89120f475e7b3e140f229157b95c", func := "warder/warderlaw10.ExtsPaths", spec := "extsPaths", inPlace := ["internal/bytealg.Compare"], unfollowed := true, recurses := true, named := ["unicode/utf8.first", "unicode/utf8.acceptRanges"], apart := false, laid := [("unicode/utf8.acceptRanges", laid_unicode_utf8_acceptRanges), ("unicode/utf8.first", laid_unicode_utf8_first)] }
def ExtsPathsSaid : Prop := extsPathsRow.holds Tryz.pinned (OpenSpec.ofChange extsPathsSpec)

/-- ITS FALSE NEIGHBOUR: 'it returns false'. Refute it at one input. -/
def extsPathsWrong : ChangeSpec := { name := "extsPaths", fn := fun _ => fun
  | [d1, d2, d3] => { results := [.lit (.bool false)], args := [d1, d2, d3] }
  | _ => none }
def ExtsPathsWrongFalsely : Prop := extsPathsRow.holds Tryz.pinned (OpenSpec.ofChange extsPathsWrong)

/- THE SECOND FORM. 'bulk': how many values and letters a reading holds, each counted each time it is reached (what is shared counts as often as it is met; a slice's spare places count too). A statement '..UptoSaid' is the law's where the arguments, and the package variables that the reading takes, are together of bulk at most 1048576: NARROWER than '..Said'. Prove '..Said' where nothing that the law and all that it calls make is longer than what came in: it says more and counts as full. Else prove '..UptoSaid'. A law counts once. -/
mutual
def uptoBulk {H : Type} : DataW H → Nat
  | .lit (.string bytes) => bytes.length + 1
  | .lit _ => 1
  | .nil => 1
  | .ptr d => uptoBulk d + 1
  | .slice elems spare => uptoBulkAll elems + uptoBulkAll spare + 1
  | .agg parts => uptoBulkAll parts + 1
  | .iface _ d => uptoBulk d + 1
  | .map entries => uptoBulkEntries entries + 1
  | .held _ => 1
def uptoBulkAll {H : Type} : List (DataW H) → Nat
  | [] => 0
  | d :: r => uptoBulk d + uptoBulkAll r
def uptoBulkEntries {H : Type} : List (Lit × DataW H) → Nat
  | [] => 0
  | x :: r => uptoBulkEntry x + uptoBulkEntries r
def uptoBulkEntry {H : Type} : Lit × DataW H → Nat
  | (.string bytes, d) => bytes.length + uptoBulk d + 1
  | (_, d) => uptoBulk d + 1
 end
def uptoSmall : (H : Type) → List (DataW H) → Bool := fun _ ds => decide (uptoBulkAll ds ≤ 1048576)
def OpenSpec.upto (s : _root_.Go.ChangeSpec) : _root_.Go.OpenSpec := { _root_.Go.OpenSpec.ofChange s with cond := some uptoSmall }

/-- 'warderlaw10.ExtsPut', WHERE WHAT IT READS IS OF BULK AT MOST 1048576: true; the input reads as it did. -/
def extsPutUptoRow : OpenClaim := { program := "ytdcpggodlggjjaagreatdoor", sum := "94dfc2a4425fc7c5835eaaf8cb529823ae1e89120f475e7b3e140f229157b95c", func := "warder/warderlaw10.ExtsPut", spec := "extsPut", inPlace := ["internal/bytealg.Compare"], unfollowed := true, recurses := true, named := ["unicode/utf8.first", "unicode/utf8.acceptRanges"], apart := false, laid := [("unicode/utf8.acceptRanges", laid_unicode_utf8_acceptRanges), ("unicode/utf8.first", laid_unicode_utf8_first)], narrowed := true }
def ExtsPutUptoSaid : Prop := extsPutUptoRow.holds Tryz.pinned (OpenSpec.upto extsPutSpec)

/-- 'warderlaw10.ExtsGet', WHERE WHAT IT READS IS OF BULK AT MOST 1048576: true; the input reads as it did. -/
def extsGetUptoRow : OpenClaim := { program := "ytdcpggodlggjjaagreatdoor", sum := "94dfc2a4425fc7c5835eaaf8cb529823ae1e89120f475e7b3e140f229157b95c", func := "warder/warderlaw10.ExtsGet", spec := "extsGet", inPlace := ["internal/bytealg.Compare"], unfollowed := true, recurses := true, named := ["unicode/utf8.first", "unicode/utf8.acceptRanges"], loops := true, apart := false, laid := [("unicode/utf8.acceptRanges", laid_unicode_utf8_acceptRanges), ("unicode/utf8.first", laid_unicode_utf8_first)], narrowed := true }
def ExtsGetUptoSaid : Prop := extsGetUptoRow.holds Tryz.pinned (OpenSpec.upto extsGetSpec)

/-- 'warderlaw10.ExtsBack', WHERE WHAT IT READS IS OF BULK AT MOST 1048576: true; the input reads as it did. -/
def extsBackUptoRow : OpenClaim := { program := "ytdcpggodlggjjaagreatdoor", sum := "94dfc2a4425fc7c5835eaaf8cb529823ae1e89120f475e7b3e140f229157b95c", func := "warder/warderlaw10.ExtsBack", spec := "extsBack", inPlace := ["internal/bytealg.Compare"], unfollowed := true, recurses := true, named := ["unicode/utf8.first", "unicode/utf8.acceptRanges"], loops := true, apart := false, laid := [("unicode/utf8.acceptRanges", laid_unicode_utf8_acceptRanges), ("unicode/utf8.first", laid_unicode_utf8_first)], narrowed := true }
def ExtsBackUptoSaid : Prop := extsBackUptoRow.holds Tryz.pinned (OpenSpec.upto extsBackSpec)

/-- 'warderlaw10.ExtsTurned', WHERE WHAT IT READS IS OF BULK AT MOST 1048576: true; the input reads as it did. -/
def extsTurnedUptoRow : OpenClaim := { program := "ytdcpggodlggjjaagreatdoor", sum := "94dfc2a4425fc7c5835eaaf8cb529823ae1e89120f475e7b3e140f229157b95c", func := "warder/warderlaw10.ExtsTurned", spec := "extsTurned", inPlace := ["internal/bytealg.Compare"], unfollowed := true, recurses := true, named := ["unicode/utf8.first", "unicode/utf8.acceptRanges"], apart := false, laid := [("unicode/utf8.acceptRanges", laid_unicode_utf8_acceptRanges), ("unicode/utf8.first", laid_unicode_utf8_first)], narrowed := true }
def ExtsTurnedUptoSaid : Prop := extsTurnedUptoRow.holds Tryz.pinned (OpenSpec.upto extsTurnedSpec)

/-- 'warderlaw10.ExtsPaths', WHERE WHAT IT READS IS OF BULK AT MOST 1048576: true; the input reads as it did. -/
def extsPathsUptoRow : OpenClaim := { program := "ytdcpggodlggjjaagreatdoor", sum := "94dfc2a4425fc7c5835eaaf8cb529823ae1e89120f475e7b3e140f229157b95c", func := "warder/warderlaw10.ExtsPaths", spec := "extsPaths", inPlace := ["internal/bytealg.Compare"], unfollowed := true, recurses := true, named := ["unicode/utf8.first", "unicode/utf8.acceptRanges"], apart := false, laid := [("unicode/utf8.acceptRanges", laid_unicode_utf8_acceptRanges), ("unicode/utf8.first", laid_unicode_utf8_first)], narrowed := true }
def ExtsPathsUptoSaid : Prop := extsPathsUptoRow.holds Tryz.pinned (OpenSpec.upto extsPathsSpec)

end Rows
end Go.Proofs.YtdcpggodlggjjaaGreatDoor
