/- The document's Narrow: its box, on its way. -/
import Derived.Test.YtclmaglkekkigaaOi
set_option maxRecDepth 100000
set_option maxHeartbeats 3200000
set_option linter.unusedVariables false
set_option linter.unusedSimpArgs false
namespace Go.Proofs.Ytclmaglkekkigaa.nmc
open Go.RowKit Go.Proofs.Ytclmaglkekkigaa.tlvc Go.Proofs.Ytclmaglkekkigaa.ndc Go.Proofs.Ytclmaglkekkigaa.txc Go.Proofs.Ytclmaglkekkigaa.txm
/-- A list of the call's own that grows, and whose own block is among those that nothing else writes to. -/
structure GO {α:Type} (E:El α) (e:TypeId) (b0:Nat) (Y:Nat→Prop) (w:World) (v:Value) (xs:List α):Prop where
  row:GRow E e b0 Y w v xs
  own: ∀g,v.ownBlock=some g→Y g
section
variable {α:Type} {E:El α} {e:TypeId} {b0:Nat} {Y:Nat→Prop} {w w':World} {v:Value} {xs:List α}
theorem GRow.to {Y':Nat→Prop}(h:GRow E e b0 Y w v xs)(hY: ∀g,Y g→g<w.heap.size→Y' g):GRow E e b0 Y' w v xs:=by
  obtain⟨cs,ho,ha⟩:=h
  exact⟨cs,ho,ha.on (Nat.le_refl _) (fun _ _ _=>rfl) (fun g hg hl=>⟨hY g hg.1 hl,hg.2.1,hg.2.2⟩)⟩
theorem GO.keep (h:GO E e b0 Y w v xs)(hs:w.heap.size≤w'.heap.size)(hk: ∀g,g<w.heap.size→Y g→w'.heap[g]? =w.heap[g]?):GO E e b0 Y w' v xs:=by
  obtain⟨⟨cs,ho,ha⟩,hown⟩:=h
  refine⟨⟨cs,⟨ho.1,?_⟩,ha.on hs (fun g hg hl=>hk g hl hg.1) (fun g hg hl=>⟨hg.1,by omega,hg.2.2⟩)⟩,hown⟩
  rcases ho.2 with hh | ⟨g,cap,cur,e1,hbg,hg,r⟩
  · exact .inl hh
  · exact .inr ⟨g,cap,cur,e1,hbg,(hk g (Array.getElem?_eq_some_iff.1 hg).1 (hown g (by rw[e1];rfl))).trans hg,r⟩
theorem GO.below (h:GO E e b0 Y w v xs)(hb:Below w.heap.size w w'):GO E e b0 Y w' v xs:=h.keep hb.size (fun g hg _=>hb.block g hg)
theorem GO.ls {A:Option Addr}{l c:Nat}(h:GO E e b0 Y w (.slice A l c) xs):LsC E Y w xs (.slice A l c):=by
  obtain⟨⟨cs,ho,ha⟩,hown⟩:=h
  have hcells:=ho
  rcases ho.2 with ⟨e1,h0⟩ | ⟨g,cap,cur,e1,hbg,hg,h1,h2,_⟩
  · simp only[Value.slice.injEq] at e1
    obtain⟨rfl,rfl,rfl⟩:=e1
    rw[List.eq_nil_of_length_eq_zero h0]
    exact LsC.nil
  · refine⟨_,cap,e1,h1,h2,fun hn=>⟨g,0,rfl,(Array.getElem?_eq_some_iff.1 hg).1,hown g (by rw[e1];rfl),fun i hi=>?_⟩⟩
    obtain⟨a,k1,k2⟩:=ha.at i hi
    refine⟨a,fun j u hu=>?_,E.mono (fun g hg=>hg.1) k1⟩
    have:=hcells.cells (g:=g) (by rw[e1];rfl) (i*E.sz+j) u (k2 j u hu)
    rw[Addr.add_lit] at this
    rwa[Nat.add_assoc]
/-- One more, in a box. -/
theorem GO.app {P:Program}{t:TypeId}{bytes:Nat}(I:Inf P t e E.sz bytes)(hY: ∀g,w.heap.size≤g→Y g)(h:GO E e b0 Y w v xs)(ty:TypeId){g off:Nat}{c:Nat}{x:α}{news:List Value}
    (hg:g<w.heap.size) (hc: ∀j u,news[j]? =some u→w.cell? ⟨g,off+j,none⟩=some u) (hx:E.hold (Fr Y w.heap.size v.ownBlock) w x news) (hn:(xs.length+1)*bytes≤140737488355328) (hm:xs.length+1≤maxLen) (hbase:b0≤w.heap.size):
    ∃v' w',(Builtin.append_ #[t,t] ty #[v,.slice (some ⟨g,off,none⟩) 1 c]).run P w=.ok v' w'∧GO E e b0 Y w' v' (xs++[x])∧w.grownBy w' v.ownBlock:=by
  obtain⟨⟨cs,ho,ha⟩,hown⟩:=h
  obtain⟨i,z,hi,hz,hsize,hby,hzs⟩:=I.ex
  have hl:news.length=1*E.sz:=by rw[E.len hx,Nat.one_mul]
  obtain⟨v',w',hr,hown',hgr,_,hob⟩:=app_gen (P:=P) w b0 t ty e i z E.sz bytes I.ht hi hz hsize hby hzs E.pos v xs.length cs ho ⟨g,off,none⟩ 1 c news hl (fun j u hu=>by rw[Addr.add_lit];exact hc j u hu) (E.one hx) hm hn hbase
  refine⟨v',w',hr,⟨⟨cs++news,by rw[List.length_append];exact hown',?_⟩,fun k hk=>?_⟩,hgr⟩
  · refine All.on (S:=Fr Y w.heap.size v.ownBlock) hgr.size (fun g hg hl=>hgr.block g hl hg.2.2) (fun g hg hl=>⟨hg.1,Nat.lt_of_lt_of_le hl hgr.size,fun e=>?_⟩) ((All.one_ hx).app ha)
    rcases hob with h1 | ⟨g',h1,h2⟩
    · exact hg.2.2 (by rw[←h1];exact e)
    · rw[h1] at e;cases e;omega
  · rcases hob with h1 | ⟨g',h1,h2⟩
    · exact hown k (by rw[←h1];exact hk)
    · rw[h1] at hk;cases hk;exact hY _ h2
end
/-- Blocks that were handed in, or are new, but for the box. -/
def YS (S:Nat→Prop)(w:World)(ob g:Nat):Prop:=(S g∧g<w.heap.size)∨(w.heap.size+1+1≤g∧g≠ob)
structure RInv (S:Nat→Prop) (w:World) (ob:Nat) (c0 c1 v x:Value) (P:List (List (List At))) (wx:World):Prop where
  bel:Below w.heap.size w wx
  low:w.heap.size+1+1≤ob
  siz:ob<wx.heap.size
  arg:wx.heap[w.heap.size]? =some (.cells #[c0,c1] 25)
  res:wx.heap[w.heap.size+1]? =some (.cells #[.slice none 0 0,.slice none 0 0] 25)
  box:wx.heap[ob]? =some (.cells #[v,x] 25)
  row:GO nlE 23 (w.heap.size+1+1) (YS S w ob) wx v P
theorem RInv.call {S:Nat→Prop}{w wx w':World}{ob:Nat}{c0 c1 v x:Value}{P:List (List (List At))}(h:RInv S w ob c0 c1 v x P wx)(hb:Below wx.heap.size wx w'):RInv S w ob c0 c1 v x P w':=by
  have hz:=h.siz
  have hl:=h.low
  exact⟨below_then h.bel hb (Nat.le_refl _),hl,Nat.lt_of_lt_of_le hz hb.size,(hb.block _ (by omega)).trans h.arg,(hb.block _ (by omega)).trans h.res,(hb.block _ (by omega)).trans h.box,h.row.below hb⟩
theorem old_ls {S:Nat→Prop}{w wx:World}(hb:Below w.heap.size w wx){α:Type}{E:El α}{xs:List α}{A:Option Addr}{l c:Nat}(hx:LsC E S w xs (.slice A l c)):LsC E (fun g=>S g∧g<w.heap.size) wx xs (.slice A l c):=by
  obtain⟨A1,c1,e1,k1,k2,k3⟩:=hx
  exact LsC.below (w:=w) ⟨A1,c1,e1,k1,k2,Lst.boundS k3⟩ hb
/-- A list that was handed in, in a later world. -/
theorem RInv.old {S:Nat→Prop}{w wx:World}{ob:Nat}{c0 c1 v x:Value}{P:List (List (List At))}(h:RInv S w ob c0 c1 v x P wx){α:Type}{E:El α}{xs:List α}{A:Option Addr}{l c:Nat}(hx:LsC E S w xs (.slice A l c)):LsC E (fun g=>S g∧g<w.heap.size) wx xs (.slice A l c):=old_ls h.bel hx
theorem RInv.start {S:Nat→Prop}{w W0:World}{P:List (List (List At))}{A B:Option Addr}{l c m d:Nat}(hP:LsC nlE S w P (.slice A l c))(sP:P.length≤1048576)(hW0:(w.alloc (.cells #[.slice A l c,.slice B m d] 25)).alloc (.cells #[.slice none 0 0,.slice none 0 0] 25)=W0):
    (W0.alloc (.cells #[] 23)).cell? ⟨w.heap.size,0,none⟩=some (.slice A l c)∧
    ∃A1 c1 w1,(Builtin.append_ #[22,22] 22 #[.slice (some ⟨W0.heap.size,0,none⟩) 0 0,.slice A l c]).run Try.prog (W0.alloc (.cells #[] 23))=.ok (.slice A1 l c1) w1∧
     RInv S w w1.heap.size (.slice A l c) (.slice B m d) (.slice A1 l c1) (.slice none 0 0) P (w1.alloc (.cells #[.slice A1 l c1,.slice none 0 0] 25)):=by
  have hz:W0.heap.size=w.heap.size+1+1:=by rw[←hW0,size_new,size_new]
  have hb0:Below w.heap.size w W0:=by rw[←hW0];exact(below_new _ _).alloc (by simp) _
  have p0:W0.heap[w.heap.size]? =some (.cells #[.slice A l c,.slice B m d] 25):=by
    rw[←hW0,heap_old_ _ _ (by simp only[size_new];omega)]
    exact heap_new_ _ _
  have p1:W0.heap[w.heap.size+1]? =some (.cells #[.slice none 0 0,.slice none 0 0] 25):=by rw[←hW0];exact heap_is (by simp)
  have hl:=(ls4 hP).1
  obtain⟨A1,c1,w1,hr,hG,hb⟩:=copy_ls Try.infNl (by omega) (old_ls hb0 hP) (by omega)
  have q0:=(hb.block _ (by omega)).trans p0
  have q1:=(hb.block _ (by omega)).trans p1
  have z1:=hb.size
  have hown:=hG.lt
  have hG2:=hG.to (Y':=YS S w w1.heap.size) (fun g hg hl=>hg.elim .inl (fun hg=>.inr ⟨by omega,by omega⟩))
  rw[hz] at hG2
  have hG3:GO nlE 23 (w.heap.size+1+1) (YS S w w1.heap.size) w1 (.slice A1 l c1) P:=⟨hG2,fun g hg=>.inr ⟨by have:=(hown g hg).1;omega,by have:=(hown g hg).2;omega⟩⟩
  have hbn:=below_new w1 (.cells #[.slice A1 l c1,.slice none 0 0] 25)
  exact⟨(Lib.cell_of_heap ((heap_old_ W0 (.cells #[] 23) (show w.heap.size<W0.heap.size by omega)).trans p0) _).trans rfl,A1,c1,w1,hr,below_then (below_then hb0 hb (Nat.le_refl _)) hbn (Nat.le_refl _),by omega,by rw[size_new];omega,(hbn.block _ (by omega)).trans q0,(hbn.block _ (by omega)).trans q1,heap_new_ _ _,hG3.below hbn⟩
theorem RInv.push {S:Nat→Prop}{w wx:World}{ob:Nat}{c0 c1 v x:Value}{P:List (List (List At))}(h:RInv S w ob c0 c1 v x P wx){p:List (List At)}{C:Option Addr}{lp cp:Nat}(hp:LsC nmE S w p (.slice C lp cp))(sp:p.length≤1048576)(sP:P.length≤1048576):
    (wx.alloc (.cells #[] 27)).cell? ⟨ob,0,none⟩=some v∧∃A3 c3 w3,(Builtin.append_ #[23,23] 23 #[.slice (some ⟨wx.heap.size,0,none⟩) 0 0,.slice C lp cp]).run Try.prog (wx.alloc (.cells #[] 27))=.ok (.slice A3 lp c3) w3∧w3.cell? ⟨ob,0,none⟩=some v∧(w3.alloc (.cells #[.slice A3 lp c3] 23)).cell? ⟨ob,0,none⟩=some v∧
      ∃A4 c4 w4,(Builtin.append_ #[22,22] 22 #[v,.slice (some ⟨w3.heap.size,0,none⟩) 1 1]).run Try.prog (w3.alloc (.cells #[.slice A3 lp c3] 23))=.ok (.slice A4 (P.length+1) c4) w4∧w4.cell? ⟨ob,0,none⟩=some v∧w4.frozen? ⟨ob,0,none⟩=false∧RInv S w ob c0 c1 (.slice A4 (P.length+1) c4) x (P++[p]) (w4.setCell ⟨ob,0,none⟩ (.slice A4 (P.length+1) c4)):=by
  have hz:=h.siz
  have hlow:=h.low
  have hpl:=(ls4 hp).1
  obtain⟨A3,c3,w3,hr3,hG3,hb3⟩:=copy_ls Try.infNm (by omega) (h.old hp) (by omega)
  have h3:=h.call hb3
  have hz3:=hb3.size
  have hown:=h.row.row.lt
  have hLp:=grow_ls (fun g hg=>.inr hg) hG3
  have hb4:=below_new w3 (.cells #[.slice A3 lp c3] 23)
  have hz4:=size_new w3 (.cells #[.slice A3 lp c3] 23)
  have h4:=h3.call hb4
  have hbox:=heap_new_ w3 (.cells #[.slice A3 lp c3] 23)
  have hxs:LsC nmE (Fr (YS S w ob) (w3.alloc (.cells #[.slice A3 lp c3] 23)).heap.size v.ownBlock) (w3.alloc (.cells #[.slice A3 lp c3] 23)) p (.slice A3 lp c3):=by
    obtain⟨A1,c1',e1,k1,k2,k3⟩:=hLp.below hb4
    refine⟨A1,c1',e1,k1,k2,(Lst.boundS k3).mono (fun k hk=>⟨?_,hk.2,fun e=>?_⟩)⟩
    · rcases hk.1 with hk |hk
      · exact .inl hk
      · exact .inr ⟨by omega,by omega⟩
    · have:=hown k e.symm
      rcases hk.1 with hk |hk
      · have:=hk.2;omega
      · omega
  have hn1:(P.length+1)*24≤140737488355328:=by omega
  obtain⟨v',w4,hr4,hG4,hgr⟩:=h4.row.app (E:=nlE) Try.infNl (fun g hg=>.inr ⟨by omega,by omega⟩) 22 (g:=w3.heap.size) (off:=0) (c:=1) (x:=p) (news:=[.slice A3 lp c3]) (by omega)
    (fun j u hu=>by rw[Nat.zero_add,Lib.cell_of_heap hbox];simpa using hu) ⟨_,rfl,hxs⟩ hn1 (by unfold maxLen;omega) (by omega)
  obtain⟨A4,c4,rfl,_,_⟩:=hG4.row.shape
  rw[show(P++[p]).length=P.length+1 by simp] at hr4 hG4
  have hbl: ∀k,k<w3.heap.size+1→(∀g,v.ownBlock=some g→k≠g)→w4.heap[k]? =(w3.alloc (.cells #[.slice A3 lp c3] 23)).heap[k]? :=fun k hk hne=>hgr.block k (by omega) (fun e=>hne k e.symm rfl)
  have hob: ∀g,v.ownBlock=some g→ob≠g:=fun g hg e=>by
    rcases h.row.own g hg with hy |hy
    · have:=(hown g hg).1;have:=hy.2;omega
    · exact hy.2 e.symm
  have b4:=(hbl ob (by omega) hob).trans h4.box
  have a4:=(hbl w.heap.size (by omega) (fun g hg e=>by have:=(hown g hg).1;omega)).trans h4.arg
  have r4:=(hbl (w.heap.size+1) (by omega) (fun g hg e=>by have:=(hown g hg).1;omega)).trans h4.res
  have e0:=h.call (below_new wx (.cells #[] 27))
  have z4:=hgr.size
  have hbel:Below w.heap.size w w4:=h4.bel.grown hgr (by omega) (fun j hj=>by have:=(hown j hj).1;omega)
  refine⟨(Lib.cell_of_heap e0.box _).trans rfl,A3,c3,w3,hr3,(Lib.cell_of_heap h3.box _).trans rfl,(Lib.cell_of_heap h4.box _).trans rfl,A4,c4,w4,hr4,(Lib.cell_of_heap b4 _).trans rfl,Lib.frozen_of_heap b4 _,?_⟩
  refine⟨hbel.setCell (p:=⟨ob,0,none⟩) (by show w.heap.size≤ob;omega) _,hlow,by rw[set_size];omega,by rw[set_heap_other _ _ _ _ _ (by omega)];exact a4,by rw[set_heap_other _ _ _ _ _ (by omega)];exact r4,set_heap _ _ 0 _ _ _ _ b4,hG4.keep (by rw[set_size];exact Nat.le_refl _) (fun g hg hY=>set_heap_other _ _ _ _ _ (by rcases hY with h |h;have:=h.2;omega;exact h.2))⟩
/-- A space whose names may have been handed in. -/
def OldS (S:Nat→Prop)(P:List (List (List At)))(X:List (List At))(w:World)(e:Ending)(w':World):Prop:=Below w.heap.size w w'∧∃A l c B m d,e=.returned (.agg #[.slice A l c,.slice B m d])∧SpC (fun g=>S g∨w.heap.size≤g) w' P X (.slice A l c) (.slice B m d)
theorem RInv.fin {S:Nat→Prop}{w wc:World}{ob:Nat}{c0:Value}{P:List (List (List At))}{A B D:Option Addr}{n c m d le ce:Nat}(h:RInv S w ob c0 (.slice B m d) (.slice A n c) (.slice none 0 0) P wc){X e:List (List At)}(hX:LsC nmE S w X (.slice B m d))(he:LsC nmE S w e (.slice D le ce))(sX:X.length≤1048576)(se:e.length≤1048576):
    (wc.alloc (.cells #[] 27)).cell? ⟨w.heap.size,1,none⟩=some (.slice B m d)∧∃A5 c5 w5,(Builtin.append_ #[23,23] 23 #[.slice (some ⟨wc.heap.size,0,none⟩) 0 0,.slice B m d]).run Try.prog (wc.alloc (.cells #[] 27))=.ok (.slice A5 m c5) w5∧
      ∃A7 l7 c7 w7,(Builtin.append_ #[23,23] 23 #[.slice A5 m c5,.slice D le ce]).run Try.prog w5=.ok (.slice A7 l7 c7) w7∧(w7.cell? ⟨ob,1,none⟩=some (.slice none 0 0)∧w7.frozen? ⟨ob,1,none⟩=false)∧
      ∀w8,w7.setCell ⟨ob,1,none⟩ (.slice A7 l7 c7)=w8→(w8.cell? ⟨ob,0,none⟩=some (.slice A n c)∧w8.cell? ⟨ob,1,none⟩=some (.slice A7 l7 c7))∧(w8.cell? ⟨w.heap.size+1,0,none⟩=some (.slice none 0 0)∧w8.frozen? ⟨w.heap.size+1,0,none⟩=false)∧
      ∀w9,w8.setCell ⟨w.heap.size+1,0,none⟩ (.slice A n c)=w9→(w9.cell? ⟨w.heap.size+1,1,none⟩=some (.slice none 0 0)∧w9.frozen? ⟨w.heap.size+1,1,none⟩=false)∧
      ∀w10,w9.setCell ⟨w.heap.size+1,1,none⟩ (.slice A7 l7 c7)=w10→(w10.cell? ⟨w.heap.size+1,0,none⟩=some (.slice A n c)∧w10.cell? ⟨w.heap.size+1,1,none⟩=some (.slice A7 l7 c7))∧OldS S P (X++e) w (.returned (.agg #[.slice A n c,.slice A7 l7 c7])) w10:=by
  have hz:=h.siz
  have hlow:=h.low
  have hXl:=(ls4 hX).1
  have hel:=(ls4 he).1
  obtain⟨A5,c5,w5,hr5,hG5,hb5⟩:=copy_ls Try.infNm (by omega) (h.old hX) (by omega)
  have h5:=h.call hb5
  have hown:=hG5.lt
  have hz5:=hb5.size
  obtain⟨j1,j2,j3,j4⟩:=ls4 (h5.old he)
  subst hel
  obtain⟨v',w7,hr7,hG7,hgr⟩:=hG5.apps (P:=Try.prog) Try.infNm (fun g hg=>.inr hg) 23 (c:=ce) (ys:=e) ((Lst.boundS j4).mono (fun g hg=>⟨.inl hg.1,hg.2,fun e=>by have:=(hown g e.symm).1;have:=hg.1.2;omega⟩)) (by omega) (by unfold maxLen;omega) (by omega)
  obtain⟨A7,c7,rfl,_,_⟩:=hG7.shape
  have hb7:Below wc.heap.size wc w7:=hb5.grown hgr hz5 (fun j hj=>(hown j hj).1)
  have h7:=h.call hb7
  have z7:=hb7.size
  have e0:=h.call (below_new wc (.cells #[] 27))
  refine⟨(Lib.cell_of_heap e0.arg _).trans rfl,A5,c5,w5,hr5,A7,_,c7,w7,hr7,⟨(Lib.cell_of_heap h7.box _).trans rfl,Lib.frozen_of_heap h7.box _⟩,fun w8 h8=>?_⟩
  have b8:w8.heap[ob]? =some (.cells #[.slice A n c,.slice A7 (X++e).length c7] 25):=by rw[←h8];exact set_heap _ _ 1 _ _ _ _ h7.box
  have r8:w8.heap[w.heap.size+1]? =some (.cells #[.slice none 0 0,.slice none 0 0] 25):=by rw[←h8,set_heap_other _ _ _ _ _ (by omega)];exact h7.res
  refine⟨⟨(Lib.cell_of_heap b8 _).trans rfl,(Lib.cell_of_heap b8 _).trans rfl⟩,⟨(Lib.cell_of_heap r8 _).trans rfl,Lib.frozen_of_heap r8 _⟩,fun w9 h9=>?_⟩
  have r9:w9.heap[w.heap.size+1]? =some (.cells #[.slice A n c,.slice none 0 0] 25):=by rw[←h9];exact set_heap _ _ 0 _ _ _ _ r8
  refine⟨⟨(Lib.cell_of_heap r9 _).trans rfl,Lib.frozen_of_heap r9 _⟩,fun w10 h10=>?_⟩
  have r10:w10.heap[w.heap.size+1]? =some (.cells #[.slice A n c,.slice A7 (X++e).length c7] 25):=by rw[←h10];exact set_heap _ _ 1 _ _ _ _ r9
  have hoth: ∀g,YS S w ob g→w10.heap[g]? =w7.heap[g]? :=fun g hg=>by
    have hg1:g≠w.heap.size+1∧g≠ob:=by
      rcases hg with h |h
      · have:=h.2;exact⟨by omega,by omega⟩
      · exact⟨by have:=h.1;omega,h.2⟩
    rw[←h10,set_heap_other _ _ _ _ _ hg1.1,←h9,set_heap_other _ _ _ _ _ hg1.1,←h8,set_heap_other _ _ _ _ _ hg1.2]
  have hsz:w10.heap.size=w7.heap.size:=by rw[←h10,set_size,←h9,set_size,←h8,set_size]
  have hup: ∀g,YS S w ob g→(S g∨w.heap.size≤g):=fun g hg=>by rcases hg with h |h;exact .inl h.1;exact .inr (by have:=h.1;omega)
  refine⟨⟨(Lib.cell_of_heap r10 _).trans rfl,(Lib.cell_of_heap r10 _).trans rfl⟩,?_,A,n,c,A7,_,c7,rfl,?_,?_⟩
  · rw[←h10,←h9,←h8]
    exact((h7.bel.setCell (p:=⟨ob,1,none⟩) (by show w.heap.size≤ob;omega) _).setCell (p:=⟨w.heap.size+1,0,none⟩) (by show w.heap.size≤w.heap.size+1;omega) _).setCell (p:=⟨w.heap.size+1,1,none⟩) (by show w.heap.size≤w.heap.size+1;omega) _
  · exact h7.row.ls.on (by omega) (fun g hg _=>hoth g hg) (fun g hg _=>hup g hg)
  · have h1:=grow_ls (fun g hg=>.inr hg) hG7
    have hy: ∀g,((S g∧g<w.heap.size)∨wc.heap.size≤g)→YS S w ob g:=fun g hg=>hg.elim .inl (fun hg=>.inr ⟨by omega,by omega⟩)
    exact h1.on (by omega) (fun g hg _=>hoth g (hy g hg)) (fun g hg _=>hup g (hy g hg))
end Go.Proofs.Ytclmaglkekkigaa.nmc
