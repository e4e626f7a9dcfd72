/- The program's copies. -/
import Derived.Test.YtclmaglkekkigaaOd
set_option maxRecDepth 100000
set_option maxHeartbeats 1600000
set_option linter.unusedVariables false
set_option linter.unusedSimpArgs false
namespace Go.Proofs.Ytclmaglkekkigaa.nmc
open Go.RowKit Go.Proofs.Ytclmaglkekkigaa.tlvc Go.Proofs.Ytclmaglkekkigaa.ndc Go.Proofs.Ytclmaglkekkigaa.txc Go.Proofs.Ytclmaglkekkigaa.txm
theorem Try.infoAttr:(Try.prog.info? 35).map (fun i=>(i.zero,i.size,i.bytes))=some (some (.agg #[.slice none 0 0,.string ⟨#[]⟩]),2,40):=by kernel_rfl
theorem Try.infoName:(Try.prog.info? 27).map (fun i=>(i.zero,i.size,i.bytes))=some (some (.slice none 0 0),1,24):=by kernel_rfl
theorem Try.infoNames:(Try.prog.info? 23).map (fun i=>(i.zero,i.size,i.bytes))=some (some (.slice none 0 0),1,24):=by kernel_rfl
theorem Try.infoInt:(Try.prog.info? 3).map (fun i=>(i.zero,i.size,i.bytes))=some (some (.int .i64 0),1,8):=by kernel_rfl
theorem Try.infA:Inf Try.prog 27 35 atE.sz 40:=by
  obtain⟨i0,hi,hz0,hz1,hz2⟩:=info_parts Try.infoAttr
  exact⟨Try.underlying27,i0,_,hi,hz0,hz1,hz2,rfl⟩
theorem Try.infNm:Inf Try.prog 23 27 nmE.sz 24:=by
  obtain⟨i0,hi,hz0,hz1,hz2⟩:=info_parts Try.infoName
  exact⟨Try.underlying23,i0,_,hi,hz0,hz1,hz2,rfl⟩
theorem Try.infNl:Inf Try.prog 22 23 nlE.sz 24:=by
  obtain⟨i0,hi,hz0,hz1,hz2⟩:=info_parts Try.infoNames
  exact⟨Try.underlying22,i0,_,hi,hz0,hz1,hz2,rfl⟩
def i64E:El Int where
  sz:=1
  hold S w x cs:=cs=[.int .i64 x]∧ -9223372036854775808≤x∧x≤9223372036854775807
  stays:=fun _ h=>h
  mono:=fun _ h=>h
  bound:=fun h=>h
  len:=fun⟨e,_⟩=>by rw[e];rfl
  one:=fun⟨e,_⟩ u hu=>by
    subst e
    simp at hu
    subst hu;rfl
  pos:=by decide
theorem Try.infI:Inf Try.prog 33 3 i64E.sz 8:=by
  obtain⟨i0,hi,hz0,hz1,hz2⟩:=info_parts Try.infoInt
  exact⟨Try.underlying33,i0,_,hi,hz0,hz1,hz2,rfl⟩
theorem lst_ins {S:Nat→Prop}{w:World}{A:Option Addr}{xs:List Int}(h:Lst i64E S w A xs)(hf:Fit8 xs):Ins w A xs.length xs∧(0<xs.length→∀g off sp,A=some ⟨g,off,sp⟩→S g):=by
  refine⟨⟨rfl,hf,fun hn=>?_⟩,fun hn g off sp e=>?_⟩
  · obtain⟨g,off,e,hg,hS,hc⟩:=h hn
    refine⟨g,off,e,hg,fun j hj=>?_⟩
    obtain⟨cs,h1,rfl,_⟩:=hc j hj
    have:=h1 0 _ rfl
    rw[show i64E.sz=1 from rfl,Nat.mul_one,Nat.add_zero] at this
    rw[this,List.getD_eq_getElem?_getD,List.getElem?_eq_getElem hj]
    rfl
  · obtain⟨g',off',e',hg,hS,hc⟩:=h hn
    rw[e] at e'
    cases e'
    exact hS
theorem ins_lst {S:Nat→Prop}{w:World}{A:Option Addr}{n:Nat}{xs:List Int}(h:Ins w A n xs)(hS:0<n→∀g off sp,A=some ⟨g,off,sp⟩→S g):Lst i64E S w A xs:=by
  obtain⟨rfl,hf,hc⟩:=h
  intro hn
  obtain⟨b,off,e,hb,hc⟩:=hc hn
  refine⟨b,off,e,hb,hS hn b off none e,fun i hi=>⟨[.int .i64 xs[i]],fun j u hu=>?_,rfl,hf _ (List.getElem_mem hi)⟩⟩
  match j,hu with
  |0,hu=>
   have:=hc i hi
   rw[List.getD_eq_getElem?_getD,List.getElem?_eq_getElem hi] at this
   rw[show i64E.sz=1 from rfl,Nat.mul_one,Nat.add_zero,this]
   exact hu
  |j+1,hu=>simp at hu
/-- What a list of numbers is, copied behind no list. -/
theorem run_ints (w:World)(A:Option Addr)(n c:Nat)(xs:List Int)(h:Ins w A n xs)(hn:n≤1048576):
    ∃A' c' w',(Builtin.append_ #[33,33] 33 #[.slice none 0 0,.slice A n c]).run Try.prog w=.ok (.slice A' n c') w'∧n≤c'∧c'≤maxLen∧Ins w' A' n xs∧(0<n→∀g off sp,A'=some ⟨g,off,sp⟩→w.heap.size≤g)∧Below w.heap.size w w'∧Nf w.heap.size w':=by
  have hl:=h.len
  subst hl
  have hL:Lst i64E (Fr (fun g=>True) w.heap.size (Value.slice none 0 0).ownBlock) w A xs:=ins_lst h (fun hn g off sp e=>by
    obtain⟨b,off',e',hb,_⟩:=h.2.2 hn
    rw[e] at e';cases e'
    exact⟨trivial,hb,fun e=>by cases e⟩)
  have hG:GRow i64E 3 w.heap.size (fun g=>True) w (.slice none 0 0) []:=GRow.nil
  obtain⟨v',w',hr,hG',hgr⟩:=hG.apps (P:=Try.prog) Try.infI (fun g _=>trivial) 33 (c:=c) hL (by simp;omega) (by simp;unfold maxLen;omega) (Nat.le_refl _)
  have hnf:=hG.appsN (P:=Try.prog) Try.infI 33 (c:=c) hL (by simp;omega) (by simp;unfold maxLen;omega) hr (Nf.start w)
  obtain⟨A',c',rfl,h1,h2,h3⟩:=hG'.lst (fun g _=>trivial)
  rw[List.nil_append] at*
  have h4:=lst_ins h3 h.fit
  have h5:=hG'.lt
  refine⟨A',c',w',hr,h1,h2,h4.1,fun hn g off sp e=>?_,(Below.refl _ _).grown hgr (Nat.le_refl _) (fun k hk=>by cases hk),hnf⟩
  subst e
  exact(h5 g rfl).1
/-- A list that a call makes, on its way, in new memory. -/
structure NInv {α:Type} (E:El α) (e:TypeId) (W0:World) (v:Value) (xs:List α) (wx:World):Prop where
  inv:LInv E e (fun g=>W0.heap.size≤g) W0 v xs wx
  nf:Nf W0.heap.size wx
section
variable {α:Type} {E:El α} {e:TypeId} {W0 wx w':World} {v:Value} {xs:List α}
theorem NInv.start:NInv E e W0 (.slice none 0 0) [] W0:=⟨⟨Below.refl _ _,GRow.nil⟩,Nf.start _⟩
theorem NInv.below (h:NInv E e W0 v xs wx)(hb:Below wx.heap.size wx w')(hn:Nf wx.heap.size w'):NInv E e W0 v xs w':=⟨h.inv.below (fun g hg=>hg) hb,h.nf.then_ hb hn⟩
theorem NInv.push {P:Program}{t:TypeId}{bytes:Nat}(I:Inf P t e E.sz bytes)(h:NInv E e W0 v xs wx)(hb:Below wx.heap.size wx w')(hnf:Nf wx.heap.size w'){x:α}{news:List Value}(hx:E.hold (fun g=>wx.heap.size≤g) w' x news){g1:Nat}(hg1:wx.heap.size≤g1){T:TypeId}{cs:Array Value}(hbox:w'.heap[g1]? =some (.cells cs T))(hcs: ∀(j:Nat) (u:Value),news[j]? =some u→cs[j]? =some u)(hn:(xs.length+1)*bytes≤140737488355328)(hm:xs.length+1≤maxLen):
    ∃A c w2,(Builtin.append_ #[t,t] t #[v,.slice (some ⟨g1,0,none⟩) 1 1]).run P w'=.ok (.slice A (xs.length+1) c) w2∧NInv E e W0 (.slice A (xs.length+1) c) (xs++[x]) w2:=by
  have hz:=h.inv.bel.size
  obtain⟨A,c,w2,hr,hI⟩:=h.inv.push I (fun g hg=>hg) hb (x:=x) (news:=news) (E.mono (fun g hg=>(⟨Nat.le_trans hz hg,.inr hg⟩:W0.heap.size≤g∧(g<W0.heap.size∨wx.heap.size≤g))) hx) hg1 hbox hcs hn hm
  refine⟨A,c,w2,hr,hI,?_⟩
  have h':=h.below hb hnf
  have hown:=h.inv.row.lt
  have hg1l:=(Array.getElem?_eq_some_iff.1 hbox).1
  have ne: ∀g,wx.heap.size≤g→some g≠v.ownBlock:=fun g hg e=>by have:=(hown g e.symm).2;omega
  refine h'.inv.row.appsN (P:=P) I t (A:=some ⟨g1,0,none⟩) (c:=1) (ys:=[x]) (fun _=>⟨g1,0,rfl,hg1l,⟨Nat.le_trans hz hg1,hg1l,ne g1 hg1⟩,fun i hi=>?_⟩) hn hm hr h'.nf
  have hi:i=0:=by simpa using hi
  subst hi
  exact⟨news,fun j u hu=>by rw[Nat.zero_mul,Nat.add_zero,Nat.zero_add,Lib.cell_of_heap hbox];exact hcs j u hu,E.mono (fun g hg=>⟨Nat.le_trans hz hg.1,hg.2,ne g hg.1⟩) (E.bound hx)⟩
theorem NInv.done (h:NInv E e W0 v xs wx): ∃A c,v=.slice A xs.length c∧LsC E (fun g=>W0.heap.size≤g) wx xs (.slice A xs.length c):=by
  obtain⟨A,c,e,h1,h2,h3⟩:=h.inv.row.lst (fun g hg=>hg)
  exact⟨A,c,e,A,c,rfl,h1,h2,h3⟩
end
theorem step_run {P:Program}{ops:Array Oper}{o:Oper}{a:Act}{w w':World}{K:Act→World→Prop}{Q:Exit→Act→World→Prop}{E:Prop}
    (hg:o.guard=none) (s x:Operand) (t:TypeId) (hop:o.op=Op.call {callee:=Callee.builtin Builtin.append,args:=#[s,x],argTypes:=#[t,t]})
    (v vs vx:Value) (hs:a.eval s=vs) (hx:a.eval x=vx) (hrun:(Builtin.append_ #[t,t] o.type #[vs,vx]).run P w=.ok v w') (hK:K (a.put o.dst v) w'):
    if Region.wanted o (yielded ops a.tmps)=true then Oper.wp P o a w K Q else E:=by
  have hw:Region.wanted o (yielded ops a.tmps)=true:=by simp[Region.wanted,hg]
  rw[if_pos hw]
  unfold Oper.wp
  simp[execOp,hop,resolve,invoke,builtin,hs,hx,hrun,Result.andThen]
  exact hK
theorem wpl_append {P:Program}{w w':World}{ops:Array Oper}{rest:List Oper}{o:Oper}{a:Act}{Q:Exit→Act→World→Prop}(hgd:o.guard=none)(s x:Operand)(t:TypeId)
    (ho:o.op=.call {callee:=.builtin .append,args:=#[s,x],argTypes:=#[t,t]}) (v vx v':Value) (hs:a.eval s=v) (hx:a.eval x=vx)
    (hrun:(Builtin.append_ #[t,t] o.type #[v,vx]).run P w=.ok v' w') (h:wpList P ops Q rest (a.put o.dst v') w'):wpList P ops Q (o::rest) a w:=by
  refine wpList_plain hgd fun K hK=>?_
  unfold Oper.wp
  simp[execOp,ho,resolve,invoke,builtin,hs,hx,hrun,Result.andThen]
  exact hK _ _ h
theorem take_one {α:Type}{xs:List α}{i:Nat}(h:i<xs.length):xs.take i++[xs[i]]=xs.take (i+1):=(List.take_succ_eq_append_getElem h).symm
theorem take_len {α:Type}{xs:List α}{i:Nat}(h:i≤xs.length):(xs.take i).length=i:=by rw[List.length_take];omega
theorem at_atE {S:Nat→Prop}{w:World}{n:List At}{A:Option Addr}{l k:Nat}(h:LsC atE S w n (.slice A l k)){i:Nat}(hi:i<l): ∃(hx:i<n.length) (g off:Nat) (O:Option Addr) (lo co:Nat) (s:ByteArray),A=some ⟨g,off,none⟩∧g<w.heap.size∧n[i].text=s∧w.cell? ⟨g,off+i*2,none⟩=some (.slice O lo co)∧w.cell? ⟨g,off+i*2+1,none⟩=some (.string s)∧lo≤co∧co≤maxLen∧Ins w O lo n[i].oid∧s.size≤maxLen:=by
  obtain⟨h1,h2,h3,h4⟩:=ls4 h
  have hx:i<n.length:=by omega
  obtain⟨g,off,cs,e,hg,hc,c0,c1,rfl,O,lo,co,rfl,rfl,k1,k2,k3,k4,k5⟩:=h4.at i hx
  have hc0:=hc 0 _ rfl
  have hc1:=hc 1 _ rfl
  rw[show atE.sz=2 from rfl] at hc0 hc1
  exact⟨hx,g,off,O,lo,co,_,e,hg,rfl,hc0,hc1,k1,k2,k3,k5⟩
/-- A list of names in new memory. -/
def NewL (L:List (List At))(w:World)(e:Ending)(w':World):Prop:=Below w.heap.size w w'∧Nf w.heap.size w'∧∃A l c,e=.returned (.slice A l c)∧GRow nmE 27 w.heap.size (fun g=>w.heap.size≤g) w' (.slice A l c) L
theorem copies_any {S:Nat→Prop}{L:List (List At)}{A:Option Addr}{l c:Nat}{w:World}(hL:LsC nmE S w L (.slice A l c))(hs:SmL L):
    Calls Try.prog 15 #[.slice A l c] w (NewL L w):=by
  have h9:c≤9223372036854775807:=by have:=(ls4 hL).2.2.1;unfold maxLen at this;omega
  have h8:l≤c:=(ls4 hL).2.1
  have hl1:=(ls4 hL).1
  have HX:=hd_ (And.intro hL (And.intro hs hl1))
  clear hL hs hl1
  go_enter Try.func15,Try.ntmps15
  go_wp2_with fail
  go_loopg [3,11] (l+1) (fun gk s3 s11 wx=>∃(k:Nat) (Av:Option Addr) (cv:Nat),s3=.slice Av k cv∧s11=.int .i64 k∧k≤l∧l - k<gk∧Hid (NInv nmE 27 w (.slice Av k cv) (L.take k) wx))
  case atStart=>exact⟨0,none,0,rfl,rfl,by omega,by omega,hd_ NInv.start⟩
  case round=>
    obtain⟨k,Av,cv,rfl,rfl,hk,hgk,HI⟩:=hrel
    have hB:=HI.out.inv.bel
    by_cases hlt:k<l
    · have hltz:(k:Int)< (l:Int):=by omega
      obtain⟨gk',rfl⟩: ∃g',gk=g'+1:=⟨gk - 1,by omega⟩
      have HN:=hd_ (And.intro (show k+1≤l from hlt) (show l - (k+1)<gk' by omega))
      obtain⟨hL,hs,hl1⟩:=HX.out
      obtain⟨hx,g,off,A1,l1,c1,rfl,hg,e0,h1⟩:=at_ls (hL.below hB) hlt
      have ht1:=take_one hx
      obtain⟨n,hn⟩:=nm_ L[k]
      rw[hn] at h1 ht1
      have hsn:SmN n:=by rw[←hn];exact hs.2 _ (List.getElem_mem hx)
      have h19:c1≤9223372036854775807:=by have:=(ls4 h1).2.2.1;unfold maxLen at this;omega
      have h18:l1≤c1:=(ls4 h1).2.1
      have HY:=hd_ (And.intro h1 (And.intro hsn (And.intro (ls4 h1).1 ht1)))
      clear hL hs h1 hsn hB ht1 hn hx hg hl1
      go_wp2_with fail
      clear e0
      go_loopg [6,17] (l1+1) (fun gk s6 s17 wx=>∃(i:Nat) (Bv:Option Addr) (dv:Nat),s6=.slice Bv i dv∧s17=.int .i64 i∧i≤l1∧l1 - i<gk∧Hid (NInv atE 35 wr (.slice Bv i dv) (n.take i) wx))
      case atStart=>exact⟨0,none,0,rfl,rfl,by omega,by omega,hd_ NInv.start⟩
      case round=>
        obtain⟨i,Bv,dv,rfl,rfl,hi,hgk2,HJ⟩:=hrel
        have hB2:=HJ.out.inv.bel
        by_cases hlt2:i<l1
        · have hltz2:(i:Int)< (l1:Int):=by omega
          obtain⟨gk2',rfl⟩: ∃g',gk=g'+1:=⟨gk - 1,by omega⟩
          have HN2:=hd_ (And.intro (show i+1≤l1 from hlt2) (show l1 - (i+1)<gk2' by omega))
          obtain⟨hx,g2,off2,O,lo,co,s,rfl,hg2,hts,e0,e1,k1,k2,k3,k5⟩:=at_atE (HY.out.1.below hB2) hlt2
          have ht2:=take_one hx
          obtain⟨Wb,hWb⟩:=nm_ (wr.alloc (.cells #[.slice O lo co,.string s] 35))
          have hbb:Below wr.heap.size wr Wb:=by rw[←hWb];exact below_new _ _
          have p0:Wb.heap[wr.heap.size]? =some (.cells #[.slice O lo co,.string s] 35):=by rw[←hWb];exact heap_new_ _ _
          have hzb:Wb.heap.size=wr.heap.size+1:=by rw[←hWb];exact size_new _ _
          have hlo:lo≤1048576:=by have:=k3.len;have:=(HY.out.2.1.2 _ (List.getElem_mem hx)).2;omega
          have hbd:Below wr.heap.size wr Wb.drew:=hbb.drew
          obtain⟨O2,co2,w1,hrunA,j1,j2,j3,j4,j5,j6⟩:=run_ints Wb.drew O lo co n[i].oid (k3.below hbd) hlo
          have hb1:=below_then hbd j5 (Nat.le_refl _)
          have hn1:Nf wr.heap.size w1:=((by rw[←hWb];exact(Nf.start wr).alloc _ _:Nf wr.heap.size Wb).drew.then_ j5 j6)
          have hz1:wr.heap.size<w1.heap.size:=by have:=j5.size;have h4:Wb.drew.heap.size=Wb.heap.size:=rfl;omega
          have q0:=(j5.block wr.heap.size (by show wr.heap.size<Wb.heap.size;omega)).trans p0
          have hb2:=below_then hb1 (below_new w1 (.cells #[.slice O2 lo co2,.string s] 35)) (Nat.le_refl _)
          have hlk:=take_len (xs:=n) (i:=i) (by omega)
          have hni:n.length≤1048576:=HY.out.2.1.1
          obtain⟨B3,d3,w3,hrunB,hJ3⟩:=HJ.out.push Try.infA hb2 (hn1.alloc _ _) (x:=n[i]) (news:=[.slice O2 lo co2,.string s]) ⟨_,_,rfl,O2,lo,co2,rfl,by rw[hts],j1,j2,j3.below (below_new _ _),fun hl g off sp e=>by have:=j4 hl g off sp e;have h4:Wb.drew.heap.size=Wb.heap.size:=rfl;omega,by rw[hts];exact k5⟩ (g1:=w1.heap.size) (by omega) (heap_new_ _ _) (fun j u hu=>by simpa using hu) (by rw[hlk];omega) (by rw[hlk];unfold maxLen;omega)
          rw[hlk] at hrunB hJ3
          rw[ht2] at hJ3
          have HJ3:=hd_ hJ3
          have v0:Wb.cell? ⟨wr.heap.size,0,none⟩=some (.slice O lo co):=(Lib.cell_of_heap p0 _).trans rfl
          have v1:Wb.cell? ⟨wr.heap.size,1,none⟩=some (.string s):=(Lib.cell_of_heap p0 _).trans rfl
          have v2:Wb.drew.cell? ⟨wr.heap.size,0,none⟩=some (.slice O lo co):=v0
          have v3:Wb.drew.cell? ⟨wr.heap.size,1,none⟩=some (.string s):=v1
          have v4:w1.cell? ⟨wr.heap.size,1,none⟩=some (.string s):=(Lib.cell_of_heap q0 _).trans rfl
          clear hB2 hgk2 hbb p0 hzb hlo hbd j1 j2 j3 j4 j5 j6 hb1 hn1 hz1 q0 hb2 hlk hni hJ3 ht2 hts k1 k2 k3 k5 hx
          go_wp2_with fail
          go_region_law (first | (refine step_run rfl (.const (.slice none 0 0)) (.tmp 23) 33 rfl _ _ _ (by simp[Act.eval]) (by simp[Act.eval]) hrunA ?_) | (refine step_run rfl (.tmp 21) (.tmp 28) 27 rfl _ _ _ (by simp[Act.eval]) (by simp[Act.eval]) hrunB ?_))
          all_goals
            clear hrunA hrunB v0 v1 v2 v3 v4
            go_wp2_with fail
            go_roundg gk2'
            case measure=>omega
            case rel=>exact⟨i+1,B3,d3,rfl,by go_num,HN2.out.1,HN2.out.2,HJ3⟩
        · obtain rfl:l1=i:=by omega
          have hltz2: ¬(l1:Int)< (l1:Int):=by omega
          have hn1:=HY.out.2.2.1
          obtain⟨_,_,e1,hdone⟩:=HJ.out.done
          rw[take_len (by omega)] at e1
          simp only[Value.slice.injEq] at e1
          obtain⟨rfl,_,rfl⟩:=e1
          rw[take_len (by omega),List.take_of_length_le (by omega)] at hdone
          have hb3:=below_then hB2 (below_new _ (.cells #[.slice Bv l1 dv] 27)) (Nat.le_refl _)
          have hlk:=take_len (xs:=L) (i:=k) (by rw[HX.out.2.2];omega)
          have hLl:L.length≤1048576:=HX.out.2.1.1
          have hll:=HX.out.2.2
          obtain⟨A3,c3,w3,hrun,hI3⟩:=HI.out.push Try.infNm hb3 (HJ.out.nf.alloc _ _) (x:=n) (news:=[.slice Bv l1 dv]) ⟨_,rfl,hdone.below (below_new _ _)⟩ (g1:=wr.heap.size) hB2.size (heap_new_ _ _) (fun j u hu=>by simpa using hu) (by rw[hlk];omega) (by rw[hlk];unfold maxLen;omega)
          rw[hlk] at hrun hI3
          rw[HY.out.2.2.2] at hI3
          have HI3:=hd_ hI3
          clear hB2 hgk2 hn1 hdone hb3 hlk hLl hll hI3
          go_wp2_with (at_builtin;refine wpl_append rfl (.tmp 31) (.tmp 33) 23 rfl _ _ _ rfl rfl hrun ?_)
          clear hrun
          go_wp2
          go_roundg gk'
          case measure=>omega
          case rel=>exact⟨k+1,A3,c3,rfl,by go_num,HN.out.1,HN.out.2,HI3⟩
    · obtain rfl:l=k:=by omega
      have hltz: ¬(l:Int)< (l:Int):=by omega
      have hdone:=HI.out.inv.row
      rw[List.take_of_length_le (by rw[HX.out.2.2];omega)] at hdone
      have HD:=hd_ (And.intro hB (And.intro hdone HI.out.nf))
      clear hB hdone HI hgk
      go_wp2
      go_ret
      exact⟨HD.out.1,HD.out.2.2,Av,l,cv,rfl,HD.out.2.1⟩
end Go.Proofs.Ytclmaglkekkigaa.nmc
