/- The document's words on parts: word, RightPrinc, Right; its makers of nodes: Oid, Text, Seq. The document's right principals, and the node of a name. -/
import Derived.Test.YtclmaglkekkigaaYb
import Derived.Test.YtclmaglkekkigaaKa
import Derived.Test.YtclmaglkekkigaaProg
import Derived.Lib.Walk
import Derived.RegionTactic
import Derived.Deep.Draws
import Derived.Deep.QuietTactic
import Derived.StillTailTactics
import Derived.BigQuiet
import Derived.Test.YtclmaglkekkigaaRows
import Derived.ProofKit
import Derived.Deep.DeepHandedRow
import Derived.Lib.LaidTab
import Derived.Test.YtclmaglkekkigaaKb
import Derived.Lib.LaidU8T
import Derived.MakeChecks
import Derived.Deep.RegionHeld3
namespace Go.Proofs.Ytclmaglkekkigaa.nmc
open Go.RowKit Go.Proofs.Ytclmaglkekkigaa.tlvc Go.Proofs.Ytclmaglkekkigaa.ndc
set_option linter.unusedVariables false
set_option linter.unusedSimpArgs false
end Go.Proofs.Ytclmaglkekkigaa.nmc
namespace Go.Proofs.Ytclmaglkekkigaa.nmc
open Go.RowKit Go.Proofs.Ytclmaglkekkigaa.tlvc Go.Proofs.Ytclmaglkekkigaa.ndc
set_option linter.unusedVariables false
set_option linter.unusedSimpArgs false
theorem cell_on {w w':World}(hb:Below w.heap.size w w'){p:Addr}{v:Value}(h:w.cell? p=some v):w'.cell? p=some v:=(hb.cell (World.block_lt_of_cell? w p h)).trans h
/-- A list that a call makes, on its way; nothing else is written behind the world W0. -/
structure LInv {α:Type} (E:El α) (e:TypeId) (Y:Nat→Prop) (W0:World) (v:Value) (xs:List α) (wx:World):Prop where
  bel:Below W0.heap.size W0 wx
  row:GRow E e W0.heap.size Y wx v xs
section
variable {α:Type} {E:El α} {e:TypeId} {Y:Nat→Prop} {W0 wx w':World} {v:Value} {xs:List α}
theorem LInv.below (hY: ∀g,W0.heap.size≤g→Y g)(h:LInv E e Y W0 v xs wx)(hb:Below wx.heap.size wx w'):LInv E e Y W0 v xs w':=⟨below_then h.bel hb (Nat.le_refl _),h.row.below hY hb⟩
theorem LInv.push {P:Program}{t:TypeId}{bytes:Nat}(I:Inf P t e E.sz bytes)(hY: ∀g,W0.heap.size≤g→Y g)(h:LInv E e Y W0 v xs wx)(hb:Below wx.heap.size wx w'){x:α}{news:List Value}(hx:E.hold (fun g=>Y g∧(g<W0.heap.size∨wx.heap.size≤g)) w' x news){g1:Nat}(hg1:wx.heap.size≤g1){T:TypeId}{fr:Nat × Nat}{cs:Array Value}(hbox:w'.heap[g1]? =some (.cells cs T fr))(hcs: ∀(j:Nat) (u:Value),news[j]? =some u→cs[j]? =some u)(hn:(xs.length+1)*bytes≤140737488355328)(hm:xs.length+1≤maxLen):
    ∃A c w2,(Builtin.append_ #[t,t] t #[v,.slice (some ⟨g1,0,none⟩) 1 1]).run P w'=.ok (.slice A (xs.length+1) c) w2∧LInv E e Y W0 (.slice A (xs.length+1) c) (xs++[x]) w2:=by
  have h':=h.below hY hb
  have hg1l:=(Array.getElem?_eq_some_iff.1 hbox).1
  have hlow:=h.bel.size
  have hlow':=h'.bel.size
  have hown:=h.row.lt
  have ne: ∀g,wx.heap.size≤g→some g≠v.ownBlock:=fun g hg e=>by have:=(hown g e.symm).2;omega
  have ne2: ∀g,g<W0.heap.size→some g≠v.ownBlock:=fun g hg e=>by have:=(hown g e.symm).1;omega
  obtain⟨v',w2,hr,hrow,hgr⟩:=h'.row.app I hY t (g:=g1) (off:=0) (c:=1) (x:=x) (news:=news) ⟨hY g1 (by omega),hg1l,ne g1 hg1⟩
    (fun j u hu=>by rw[Nat.zero_add,Lib.cell_of_heap hbox];exact hcs j u hu)
    (E.mono (fun g hg=>⟨hg.1.1,hg.2,hg.1.2.elim (ne2 g) (ne g)⟩) (E.bound hx)) hn hm hlow'
  obtain⟨A,c,rfl,hc1,hc2⟩:=hrow.shape
  rw[show(xs++[x]).length=xs.length+1 by simp] at hr hrow
  exact⟨A,c,w2,hr,h'.bel.grown hgr hlow' (fun j hj=>(hown j hj).1),hrow⟩
end
end Go.Proofs.Ytclmaglkekkigaa.nmc
