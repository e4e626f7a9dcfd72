/- The program's Narrow. -/
import Derived.Test.YtclmaglkekkigaaOe
set_option maxRecDepth 100000
set_option maxHeartbeats 3200000
set_option linter.unusedVariables false
set_option linter.unusedSimpArgs false
namespace Go.Proofs.Ytclmaglkekkigaa.nmc
open Go.RowKit Go.Proofs.Ytclmaglkekkigaa.tlvc Go.Proofs.Ytclmaglkekkigaa.ndc Go.Proofs.Ytclmaglkekkigaa.txc Go.Proofs.Ytclmaglkekkigaa.txm
theorem Lst.bound' {α:Type}{E:El α}{S:Nat→Prop}{w:World}{A:Option Addr}{xs:List α}(h:Lst E S w A xs):Lst E (fun g=>S g∧g<w.heap.size) w A xs:=Lst.boundS h
/-- The space that Narrow makes, on its way: its box, and its list of lists. -/
structure SInv (w:World) (c0 c1 v x:Value) (P:List (List (List At))) (wx:World):Prop where
  bel:Below w.heap.size w wx
  siz:w.heap.size+1+1+1≤wx.heap.size
  arg:wx.heap[w.heap.size]? =some (.cells #[c0,c1] 25)
  res:wx.heap[w.heap.size+1]? =some (.cells #[.slice none 0 0,.slice none 0 0] 25)
  box:wx.heap[w.heap.size+1+1]? =some (.cells #[v,x] 25)
  row:GRow nlE 23 (w.heap.size+1+1+1) (fun g=>w.heap.size+1+1+1≤g) wx v P
  nf:Nf w.heap.size wx
theorem SInv.start {w W:World}{c0 c1:Value}(h:((w.alloc (.cells #[c0,c1] 25)).alloc (.cells #[.slice none 0 0,.slice none 0 0] 25)).alloc (.cells #[.slice none 0 0,.slice none 0 0] 25)=W):SInv w c0 c1 (.slice none 0 0) (.slice none 0 0) [] W:=by
  subst h
  refine⟨((below_new _ _).alloc (by simp) _).alloc (by simp;omega) _,by simp,?_,?_,heap_is (by simp),GRow.nil,(((Nf.start w).alloc _ _).alloc _ _).alloc _ _⟩
  · rw[heap_old_ _ _ (by simp only[size_new];omega),heap_old_ _ _ (by simp only[size_new];omega)]
    exact heap_new_ _ _
  · rw[heap_old_ _ _ (by simp only[size_new];omega)]
    exact heap_is (by simp)
theorem SInv.call {w wx w':World}{c0 c1 v x:Value}{P:List (List (List At))}(h:SInv w c0 c1 v x P wx)(hb:Below wx.heap.size wx w')(hn:Nf wx.heap.size w'):SInv w c0 c1 v x P w':=by
  have hz:=h.siz
  exact⟨below_then h.bel hb (Nat.le_refl _),Nat.le_trans hz hb.size,(hb.block _ (by omega)).trans h.arg,(hb.block _ (by omega)).trans h.res,(hb.block _ (by omega)).trans h.box,h.row.below (fun g hg=>hg) hb,h.nf.then_ hb hn⟩
/-- One list more. -/
theorem SInv.push {w wx w2:World}{c0 c1 v x:Value}{P:List (List (List At))}(h:SInv w c0 c1 v x P wx)(hb:Below wx.heap.size wx w2)(hn:Nf wx.heap.size w2){L:List (List At)}{A:Option Addr}{l c:Nat}(hG:GRow nmE 27 wx.heap.size (fun g=>wx.heap.size≤g) w2 (.slice A l c) L)(hP:P.length≤1048576):
    ∃A' c' w4,(Builtin.append_ #[22,22] 22 #[v,.slice (some ⟨w2.heap.size,0,none⟩) 1 1]).run Try.prog (w2.alloc (.cells #[.slice A l c] 23))=.ok (.slice A' (P.length+1) c') w4∧w4.cell? ⟨w.heap.size+1+1,0,none⟩=some v∧w4.frozen? ⟨w.heap.size+1+1,0,none⟩=false∧SInv w c0 c1 (.slice A' (P.length+1) c') x (P++[L]) (w4.setCell ⟨w.heap.size+1+1,0,none⟩ (.slice A' (P.length+1) c')):=by
  have hz:=h.siz
  have hz2:=hb.size
  have hb2:=below_then hb (below_new w2 (.cells #[.slice A l c] 23)) (Nat.le_refl _)
  have hc:=h.call hb hn
  have h3:=hc.call (below_new w2 (.cells #[.slice A l c] 23)) ((Nf.start w2).alloc _ _)
  have hrow:=h3.row
  have hown:=h.row.lt
  have hbox:=heap_new_ w2 (.cells #[.slice A l c] 23)
  have hs2:w2.heap.size< (w2.alloc (.cells #[.slice A l c] 23)).heap.size:=by simp
  have ne: ∀g,wx.heap.size≤g→some g≠v.ownBlock:=fun g hg e=>by have:=(hown g e.symm).2;omega
  obtain⟨A1,c1',e1,k1,k2,k3⟩:=hG.lst (fun g hg=>hg)
  simp only[Value.slice.injEq] at e1
  obtain⟨rfl,rfl,rfl⟩:=e1
  have hx:LsC nmE (fun g=>wx.heap.size≤g) (w2.alloc (.cells #[.slice A L.length c] 23)) L (.slice A L.length c):=LsC.below ⟨A,c,rfl,k1,k2,k3⟩ (below_new _ _)
  have hY: ∀g,w.heap.size+1+1+1≤g→(fun g=>w.heap.size+1+1+1≤g) g:=fun g hg=>hg
  have hld:nlE.hold (Fr (fun g=>w.heap.size+1+1+1≤g) (w2.alloc (.cells #[.slice A L.length c] 23)).heap.size v.ownBlock) (w2.alloc (.cells #[.slice A L.length c] 23)) L [.slice A L.length c]:=nlE.mono (fun g hg=>⟨Nat.le_trans hz hg.1,hg.2,ne g hg.1⟩) (nlE.bound ⟨_,rfl,hx⟩)
  have hcs: ∀j u,[Value.slice A L.length c][j]? =some u→(w2.alloc (.cells #[.slice A L.length c] 23)).cell? ⟨w2.heap.size,0+j,none⟩=some u:=fun j u hu=>by
    rw[Nat.zero_add,Lib.cell_of_heap hbox]
    simpa using hu
  have hFr:Fr (fun g=>w.heap.size+1+1+1≤g) (w2.alloc (.cells #[.slice A L.length c] 23)).heap.size v.ownBlock w2.heap.size:=⟨by omega,hs2,ne _ hz2⟩
  have hn1:(P.length+1)*24≤140737488355328:=by omega
  have hm1:P.length+1≤maxLen:=by unfold maxLen;omega
  obtain⟨v',w4,hr,hrow',hgr⟩:=hrow.app (E:=nlE) Try.infNl hY 22 (g:=w2.heap.size) (off:=0) (c:=1) (x:=L) hFr hcs hld hn1 hm1 (by omega)
  have hnf:=hrow.appsN (P:=Try.prog) (E:=nlE) Try.infNl 22 (A:=some ⟨w2.heap.size,0,none⟩) (c:=1) (ys:=[L]) (fun _=>⟨w2.heap.size,0,rfl,hs2,hFr,fun i hi=>by
    have hi:i=0:=by simpa using hi
    subst hi
    exact⟨_,fun j u hu=>by rw[Nat.zero_mul,Nat.add_zero];exact hcs j u hu,hld⟩⟩) hn1 hm1 hr h3.nf
  obtain⟨A',c',rfl,_,_⟩:=hrow'.shape
  rw[show(P++[L]).length=P.length+1 by simp] at hr hrow'
  have hbl: ∀k,k<w.heap.size+1+1+1→w4.heap[k]? =(w2.alloc (.cells #[.slice A L.length c] 23)).heap[k]? :=fun k hk=>hgr.block k (by omega) (fun e=>by have:=(hown k e.symm).1;omega)
  have b4:=(hbl _ (by omega)).trans h3.box
  have a4:=(hbl _ (by omega)).trans h3.arg
  have r4:=(hbl _ (by omega)).trans h3.res
  refine⟨A',c',w4,hr,(Lib.cell_of_heap b4 _).trans rfl,Lib.frozen_of_heap b4 _,(h3.bel.grown hgr (by omega) (fun j hj=>by have:=(hown j hj).1;omega)).setCell (p:=⟨w.heap.size+1+1,0,none⟩) (by show w.heap.size≤w.heap.size+1+1;omega) _,by rw[set_size];have:=hgr.size;omega,?_,?_,?_,?_,hnf.setCell _ _⟩
  · rw[set_heap_other _ _ _ _ _ (by omega)];exact a4
  · rw[set_heap_other _ _ _ _ _ (by omega)];exact r4
  · exact set_heap _ _ 0 _ _ _ _ b4
  · exact hrow'.keep hY (by rw[set_size];exact Nat.le_refl _) (fun g _ hg=>set_heap_other _ _ _ _ _ (by have:w.heap.size+1+1+1≤g:=hg;omega))
/-- A space in new memory. -/
def NewS (P:List (List (List At)))(X:List (List At))(w:World)(e:Ending)(w':World):Prop:=Below w.heap.size w w'∧Nf w.heap.size w'∧∃A l c B m d,e=.returned (.agg #[.slice A l c,.slice B m d])∧SpC (fun g=>w.heap.size≤g) w' P X (.slice A l c) (.slice B m d)
/-- The names excluded, behind one another. -/
theorem ex_join {wc w5 w6:World}{X e:List (List At)}{A5 A6:Option Addr}{l5 c5 l6 c6:Nat}(hb5:Below wc.heap.size wc w5)(hn5:Nf wc.heap.size w5)(G1:GRow nmE 27 wc.heap.size (fun g=>wc.heap.size≤g) w5 (.slice A5 l5 c5) X)(hb6:Below w5.heap.size w5 w6)(hn6:Nf w5.heap.size w6)(G2:GRow nmE 27 w5.heap.size (fun g=>w5.heap.size≤g) w6 (.slice A6 l6 c6) e)(hX:X.length≤1048576)(he:e.length≤1048576):
    ∃A7 l7 c7 w7,(Builtin.append_ #[23,23] 23 #[.slice A5 l5 c5,.slice A6 l6 c6]).run Try.prog w6=.ok (.slice A7 l7 c7) w7∧GRow nmE 27 wc.heap.size (fun g=>wc.heap.size≤g) w7 (.slice A7 l7 c7) (X++e)∧Below wc.heap.size wc w7∧Nf wc.heap.size w7:=by
  have z5:=hb5.size
  have z6:=hb6.size
  have hown:=G1.lt
  have G1':=G1.below (fun g hg=>hg) hb6
  obtain⟨A',c',e1,k1,k2,k3⟩:=G2.lst (fun g hg=>hg)
  simp only[Value.slice.injEq] at e1
  obtain⟨rfl,rfl,rfl⟩:=e1
  have hL:Lst nmE (Fr (fun g=>wc.heap.size≤g) w6.heap.size (Value.slice A5 l5 c5).ownBlock) w6 A6 e:=(Lst.bound' k3).mono (fun g hg=>⟨Nat.le_trans z5 hg.1,hg.2,fun e=>by have:=(hown g e.symm).2;have:=hg.1;omega⟩)
  obtain⟨v',w7,hr,hG,hgr⟩:=G1'.apps (P:=Try.prog) Try.infNm (fun g hg=>hg) 23 (c:=c6) hL (by omega) (by unfold maxLen;omega) (by omega)
  have hnf:=G1'.appsN (P:=Try.prog) Try.infNm 23 (c:=c6) hL (by omega) (by unfold maxLen;omega) hr (hn5.then_ hb6 hn6)
  obtain⟨A7,c7,rfl,_,_⟩:=hG.shape
  exact⟨A7,_,c7,w7,hr,hG,(below_then hb5 hb6 (Nat.le_refl _)).grown hgr (by omega) (fun j hj=>(hown j hj).1),hnf⟩
theorem fin13 {w wc w7:World}{c0 c1:Value}{P:List (List (List At))}{XE:List (List At)}{A A7:Option Addr}{n c l7 c7:Nat}(h:SInv w c0 c1 (.slice A n c) (.slice none 0 0) P wc)(hb:Below wc.heap.size wc w7)(hn:Nf wc.heap.size w7)(hG:GRow nmE 27 wc.heap.size (fun g=>wc.heap.size≤g) w7 (.slice A7 l7 c7) XE){w8:World}(h8:w7.setCell ⟨w.heap.size+1+1,1,none⟩ (.slice A7 l7 c7)=w8){w9 w10:World}(h9:w8.setCell ⟨w.heap.size+1,0,none⟩ (.slice A n c)=w9)(h10:w9.setCell ⟨w.heap.size+1,1,none⟩ (.slice A7 l7 c7)=w10):
    (w7.cell? ⟨w.heap.size+1+1,1,none⟩=some (.slice none 0 0)∧w7.frozen? ⟨w.heap.size+1+1,1,none⟩=false)∧(w8.cell? ⟨w.heap.size+1+1,0,none⟩=some (.slice A n c)∧w8.cell? ⟨w.heap.size+1+1,1,none⟩=some (.slice A7 l7 c7))∧(w8.cell? ⟨w.heap.size+1,0,none⟩=some (.slice none 0 0)∧w8.frozen? ⟨w.heap.size+1,0,none⟩=false)∧(w9.cell? ⟨w.heap.size+1,1,none⟩=some (.slice none 0 0)∧w9.frozen? ⟨w.heap.size+1,1,none⟩=false)∧
    (w10.cell? ⟨w.heap.size+1,0,none⟩=some (.slice A n c)∧w10.cell? ⟨w.heap.size+1,1,none⟩=some (.slice A7 l7 c7))∧NewS P XE w (.returned (.agg #[.slice A n c,.slice A7 l7 c7])) w10:=by
  have hz:=h.siz
  have h7:=h.call hb hn
  have z7:=hb.size
  have b8:w8.heap[w.heap.size+1+1]? =some (.cells #[.slice A n c,.slice A7 l7 c7] 25):=by rw[←h8];exact set_heap _ _ 1 _ _ _ _ h7.box
  have r8:w8.heap[w.heap.size+1]? =some (.cells #[.slice none 0 0,.slice none 0 0] 25):=by rw[←h8,set_heap_other _ _ _ _ _ (by omega)];exact h7.res
  have r9:w9.heap[w.heap.size+1]? =some (.cells #[.slice A n c,.slice none 0 0] 25):=by rw[←h9];exact set_heap _ _ 0 _ _ _ _ r8
  have r10:w10.heap[w.heap.size+1]? =some (.cells #[.slice A n c,.slice A7 l7 c7] 25):=by rw[←h10];exact set_heap _ _ 1 _ _ _ _ r9
  have hoth: ∀g,w.heap.size+1+1+1≤g→w10.heap[g]? =w7.heap[g]? :=fun g hg=>by
    rw[←h10,set_heap_other _ _ _ _ _ (by omega),←h9,set_heap_other _ _ _ _ _ (by omega),←h8,set_heap_other _ _ _ _ _ (by omega)]
  have hsz:w10.heap.size=w7.heap.size:=by rw[←h10,set_size,←h9,set_size,←h8,set_size]
  refine⟨⟨(Lib.cell_of_heap h7.box _).trans rfl,Lib.frozen_of_heap h7.box _⟩,⟨(Lib.cell_of_heap b8 _).trans rfl,(Lib.cell_of_heap b8 _).trans rfl⟩,⟨(Lib.cell_of_heap r8 _).trans rfl,Lib.frozen_of_heap r8 _⟩,⟨(Lib.cell_of_heap r9 _).trans rfl,Lib.frozen_of_heap r9 _⟩,⟨(Lib.cell_of_heap r10 _).trans rfl,(Lib.cell_of_heap r10 _).trans rfl⟩,?_,?_,A,n,c,A7,l7,c7,rfl,?_,?_⟩
  · rw[←h10,←h9,←h8]
    exact((h7.bel.setCell (p:=⟨w.heap.size+1+1,1,none⟩) (by show w.heap.size≤w.heap.size+1+1;omega) _).setCell (p:=⟨w.heap.size+1,0,none⟩) (by show w.heap.size≤w.heap.size+1;omega) _).setCell (p:=⟨w.heap.size+1,1,none⟩) (by show w.heap.size≤w.heap.size+1;omega) _
  · rw[←h10,←h9,←h8]
    exact((h7.nf.setCell _ _).setCell _ _).setCell _ _
  · obtain⟨A1,c1',e1,k1,k2,k3⟩:=h7.row.lst (fun g hg=>hg)
    have h1:LsC nlE (fun g=>w.heap.size+1+1+1≤g) w7 P (.slice A n c):=⟨A1,c1',e1,k1,k2,k3⟩
    exact h1.on (by omega) (fun g hg _=>hoth g hg) (fun g hg _=>by have:w.heap.size+1+1+1≤g:=hg;omega)
  · obtain⟨A1,c1',e1,k1,k2,k3⟩:=hG.lst (fun g hg=>hg)
    have h1:LsC nmE (fun g=>wc.heap.size≤g) w7 XE (.slice A7 l7 c7):=⟨A1,c1',e1,k1,k2,k3⟩
    exact h1.on (by omega) (fun g hg _=>hoth g (by have:wc.heap.size≤g:=hg;omega)) (fun g hg _=>by have:wc.heap.size≤g:=hg;omega)
end Go.Proofs.Ytclmaglkekkigaa.nmc
