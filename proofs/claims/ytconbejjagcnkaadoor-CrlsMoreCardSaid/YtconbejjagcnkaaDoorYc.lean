/- The document's words on parts: word, RightPrinc, Right; its  -/
import Derived.Test.YtconbejjagcnkaaDoorKa
import Derived.Test.YtconbejjagcnkaaDoorProg
import Derived.Lib.ValidAsc
import Derived.Lib.Walk
import Derived.Lib.Endian
import Derived.Lib.EndianBits
import Derived.RegionTactic
import Derived.Deep.Draws
import Derived.Deep.QuietTactic
import Derived.Test.YtconbejjagcnkaaDoorXc
import Derived.Test.YtconbejjagcnkaaDoorYb
import Derived.Deep.RegionHeld3
set_option linter.unusedVariables false
set_option linter.unusedSimpArgs false
namespace Go.Proofs.YtconbejjagcnkaaDoor.tlvc
open Go.RowKit
def TB (w:World)(A:Option Addr)(n:Nat)(t:ByteArray):Prop:=
 t.size=n∧(0<n→∃b off,A=some ⟨b,off,none⟩∧b<w.heap.size∧∀j,j<n→w.cell? ⟨b,off+j,none⟩=some (.int .u8 ((t.get! j).toNat:Int)))
theorem TB.below {w w':World}{A:Option Addr}{n:Nat}{t:ByteArray}(h:TB w A n t)(hb:Below w.heap.size w w'):TB w' A n t:=
 ⟨h.1,fun hn=>by
   obtain⟨b,off,e,hl,hc⟩:=h.2 hn
   exact⟨b,off,e,Nat.lt_of_lt_of_le hl hb.size,fun j hj=>(hb.cell (p:=⟨b,off+j,none⟩) hl).trans (hc j hj)⟩⟩
theorem get_cut (t:ByteArray)(k j:Nat):(t.extract k t.size).get! j=t.get! (k+j):=by
 rw[←Lib.getD_get!',←Lib.getD_get!',Lib.ext_list,List.getD_eq_getElem?_getD,List.getD_eq_getElem?_getD,List.getElem?_drop]
theorem TB.cut {w:World}{A:Option Addr}{n:Nat}{t:ByteArray}(h:TB w A n t){k:Nat}(hk:k≤n):TB w (if n=k then A else A.map (·.add k)) (n - k) (t.extract k t.size):=by
 refine⟨by rw[Lib.ext_size,h.1],fun hn=>?_⟩
 obtain⟨b,off,rfl,hb,hc⟩:=h.2 (by omega)
 rw[if_neg (by omega)]
 refine⟨b,off+k,by simp[Addr.add_lit],hb,fun j hj=>?_⟩
 rw[Nat.add_assoc,hc (k+j) (by omega),get_cut]
end Go.Proofs.YtconbejjagcnkaaDoor.tlvc
namespace Go.Proofs.YtconbejjagcnkaaDoor.txc
open Go.RowKit tlvc
theorem TB.tail {w:World}{b off n:Nat}{t:ByteArray}(h:TB w (some ⟨b,off,none⟩) n t){k:Nat}(hk:k≤n):TB w (some ⟨b,off+k,none⟩) (n - k) (t.extract k t.size):=by
 have:=h.cut hk
 refine⟨this.1,fun hn=>?_⟩
 rw[if_neg (by omega)] at this
 obtain⟨b',off',e,r⟩:=this.2 hn
 exact⟨b',off',by rw[←e];simp[Addr.add_lit],r⟩
end Go.Proofs.YtconbejjagcnkaaDoor.txc
namespace Go.Proofs.YtconbejjagcnkaaDoor.txc
open Go.RowKit tlvc
end Go.Proofs.YtconbejjagcnkaaDoor.txc
namespace Go.Proofs.YtconbejjagcnkaaDoor.txc
open Go.RowKit tlvc
end Go.Proofs.YtconbejjagcnkaaDoor.txc
namespace Go.Proofs.YtconbejjagcnkaaDoor.txc
open Go.RowKit txm tlvc
end Go.Proofs.YtconbejjagcnkaaDoor.txc
namespace Go.Proofs.YtconbejjagcnkaaDoor.nmc
open Go.RowKit tlvc tlvd ndc txc txm intc intm
def NVal (S:Nat→Prop)(w:World)(n:Nd)(e:Ending)(w':World):Prop:=
 Below w.heap.size w w'∧∃t A la ca K lk ck,e=.returned (.agg #[.int .u8 t,.slice A la ca,.slice K lk ck])∧NdC S w' n (.int .u8 t) (.slice A la ca) (.slice K lk ck)
theorem NVal.mono {S S':Nat→Prop}{w:World}{n:Nd}{e:Ending}{w':World}(hS: ∀g,S g→S' g)(h:NVal S w n e w'):NVal S' w n e w':=by
 obtain⟨hb,t,A,la,ca,K,lk,ck,e,hn⟩:=h
 exact⟨hb,t,A,la,ca,K,lk,ck,e,NdC.mono hS _ _ _ _ hn⟩
end Go.Proofs.YtconbejjagcnkaaDoor.nmc
namespace Go.Proofs.YtconbejjagcnkaaDoor.nmc
open Go.RowKit tlvc tlvd ndc txc txm intc intm
theorem below_drew (w:World):Below w.heap.size w w.drew:=(br_ _ _).drew
theorem cell_on {w w':World}(hb:Below w.heap.size w w'){p:Addr}{v:Value}(h:w.cell? p=some v):w'.cell? p=some v:=(hb.cell (World.block_lt_of_cell? w p h)).trans h
structure LInv {α:Type} (E:El α) (e:TypeId) (Y:Nat→Prop) (W0:World) (v:Value) (xs:List α) (wx:World):Prop where
 bel:Below W0.heap.size W0 wx
 row:GRow E e W0.heap.size Y wx v xs
section
variable {α:Type} {E:El α} {e:TypeId} {Y:Nat→Prop} {W0 wx w':World} {v:Value} {xs:List α}
theorem LInv.start:LInv E e Y W0 (.slice none 0 0) [] W0:=⟨br_ _ _,GRow.nil⟩
theorem LInv.below (hY: ∀g,W0.heap.size≤g→Y g)(h:LInv E e Y W0 v xs wx)(hb:Below wx.heap.size wx w'):LInv E e Y W0 v xs w':=⟨below_then h.bel hb (lr_ _),h.row.below hY hb⟩
theorem LInv.push {P:Program}{t:TypeId}{bytes:Nat}(I:Inf P t e E.sz bytes)(hY: ∀g,W0.heap.size≤g→Y g)(h:LInv E e Y W0 v xs wx)(hb:Below wx.heap.size wx w'){x:α}{news:List Value}(hx:E.hold (fun g=>Y g∧(g<W0.heap.size∨wx.heap.size≤g)) w' x news){g1:Nat}(hg1:wx.heap.size≤g1){T:TypeId}{fr:Nat × Nat}{cs:Array Value}(hbox:w'.heap[g1]? =some (.cells cs T fr))(hcs: ∀(j:Nat) (u:Value),news[j]? =some u→cs[j]? =some u)(hn:(xs.length+1)*bytes≤140737488355328)(hm:xs.length+1≤maxLen):
 ∃A c w2,(Builtin.append_ #[t,t] t #[v,.slice (some ⟨g1,0,none⟩) 1 1]).run P w'=.ok (.slice A (xs.length+1) c) w2∧LInv E e Y W0 (.slice A (xs.length+1) c) (xs++[x]) w2:=by
 have h':=h.below hY hb
 have hg1l:=(Array.getElem?_eq_some_iff.1 hbox).1
 have hlow:=h.bel.size
 have hlow':=h'.bel.size
 have hown:=h.row.lt
 have ne: ∀g,wx.heap.size≤g→some g≠v.ownBlock:=fun g hg e=>by have:=(hown g e.symm).2;omega
 have ne2: ∀g,g<W0.heap.size→some g≠v.ownBlock:=fun g hg e=>by have:=(hown g e.symm).1;omega
 obtain⟨v',w2,hr,hrow,hgr⟩:=h'.row.app I hY t (g:=g1) (off:=0) (c:=1) (x:=x) (news:=news) ⟨hY g1 (by omega),hg1l,ne g1 hg1⟩
  (fun j u hu=>by rw[Nat.zero_add,ch_ hbox];exact hcs j u hu)
  (E.mono (fun g hg=>⟨hg.1.1,hg.2,hg.1.2.elim (ne2 g) (ne g)⟩) (E.bound hx)) hn hm hlow'
 obtain⟨A,c,rfl,hc1,hc2⟩:=hrow.shape
 rw[show(xs++[x]).length=xs.length+1 by simp] at hr hrow
 exact⟨A,c,w2,hr,h'.bel.grown hgr hlow' (fun j hj=>(hown j hj).1),hrow⟩
end
end Go.Proofs.YtconbejjagcnkaaDoor.nmc
