/- What is written of a node, and what is read of bytes: as functions. The reader that goes down. The reader at a value that is not compound. Kids that the reader lays one behind the other: what a round keeps. What holds between two kids that are read, and that a round keeps it. -/
import Derived.Test.YtclmaglkekkigaaKa
import Derived.Test.YtclmaglkekkigaaProg
import Derived.Lib.BytesEntry
import Derived.Laws.Externs
import Derived.Lib.Walk
import Derived.RegionTactic
import Derived.Deep.QuietTactic
import GoSem.Extern.BytealgCompare
import Derived.Lib.BitFns
import Derived.Deep.Draws
import Derived.Laws.BitsAllLaws
import Derived.Laws.Entries
import Derived.Test.YtclmaglkekkigaaChecked
import Derived.WalkMore
import Derived.Outline
import Derived.WalkSpells
import Derived.Lib.SlBytesConst
import Derived.Lib.Bytes
import Derived.WalkKit
import Derived.StillTailTactics
import Derived.BigQuiet
import Derived.Test.YtclmaglkekkigaaRows
import Derived.ProofKit
import Derived.Deep.DeepHandedRow
import Derived.Lib.LaidTab
import Derived.Test.YtclmaglkekkigaaKb
import Derived.Lib.LaidU8T
import Derived.MakeChecks
import Derived.Deep.LoopGhost
import Derived.Deep.RegionLaw
import Derived.WalkLawsBesides
import Derived.Lib.Builder
namespace Go.Proofs.Ytclmaglkekkigaa.ndc
open Go.RowKit Go.Proofs.Ytclmaglkekkigaa.tlvc
set_option linter.unusedVariables false
/-! ### Written -/
end Go.Proofs.Ytclmaglkekkigaa.ndc
namespace Go.Proofs.Ytclmaglkekkigaa.ndc
open Go.RowKit Go.Proofs.Ytclmaglkekkigaa.tlvc
set_option linter.unusedVariables false
end Go.Proofs.Ytclmaglkekkigaa.ndc
namespace Go.Proofs.Ytclmaglkekkigaa.ndc
open Go.RowKit Go.Proofs.Ytclmaglkekkigaa.tlvc
set_option linter.unusedVariables false
set_option linter.unusedSimpArgs false
theorem heap_new_ (w:World)(o:Obj):(w.alloc o).heap[w.heap.size]? =some o:=by show(w.heap.push o)[w.heap.size]? =_;simp
theorem heap_old_ (w:World)(o:Obj){k:Nat}(h:k<w.heap.size):(w.alloc o).heap[k]? =w.heap[k]? :=by show(w.heap.push o)[k]? =_;rw[Array.getElem?_push_lt h];exact(Array.getElem?_eq_getElem h).symm
end Go.Proofs.Ytclmaglkekkigaa.ndc
namespace Go.Proofs.Ytclmaglkekkigaa.ndc
open Go.RowKit Go.Proofs.Ytclmaglkekkigaa.tlvc
set_option linter.unusedVariables false
set_option linter.unusedSimpArgs false
end Go.Proofs.Ytclmaglkekkigaa.ndc
namespace Go.Proofs.Ytclmaglkekkigaa.ndc
open Go.RowKit Go.Proofs.Ytclmaglkekkigaa.tlvc
set_option linter.unusedVariables false
set_option linter.unusedSimpArgs false
theorem set_heap (w:World)(g i:Nat)(v:Value)(cs:Array Value)(T:TypeId)(fr:Nat × Nat)(h:w.heap[g]? =some (.cells cs T fr)):(w.setCell ⟨g,i,none⟩ v).heap[g]? =some (.cells (cs.setIfInBounds i v) T fr):=by
  simp[World.setCell,Array.getElem?_modify,h]
theorem set_heap_other (w:World)(g i k:Nat)(v:Value)(h:k≠g):(w.setCell ⟨g,i,none⟩ v).heap[k]? =w.heap[k]? :=by
  simp[World.setCell,Array.getElem?_modify,h.symm]
theorem set_size (w:World)(a:Addr)(v:Value):(w.setCell a v).heap.size=w.heap.size:=by simp[World.setCell]
theorem cell_same {w w':World}{p:Addr}(h:w'.heap[p.block]? =w.heap[p.block]?):w'.cell? p=w.cell? p:=by unfold World.cell?;rw[h]
end Go.Proofs.Ytclmaglkekkigaa.ndc
