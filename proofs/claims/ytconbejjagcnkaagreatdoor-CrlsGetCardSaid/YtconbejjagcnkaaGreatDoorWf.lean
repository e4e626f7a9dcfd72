/- The nodes of a list of what was taken back: the program's nodesOf. -/
import Derived.Test.YtconbejjagcnkaaGreatDoorWe
set_option maxRecDepth 100000
set_option maxHeartbeats 16000000
set_option linter.unusedVariables false
set_option linter.unusedSimpArgs false
namespace Go.Proofs.YtconbejjagcnkaaGreatDoor.nmc
open Go.RowKit tlvc tlvd ndc txc txm intc intm vtc
structure NL (w:World) (C:Array Value) (W:World):Prop where
 bel:Below w.heap.size w W
 siz:w.heap.size+3≤W.heap.size
 arg:W.heap[w.heap.size]? =some (.cells C 26)
 r1:W.heap[w.heap.size+1]? =some (.cells #[.int .u8 0,.slice none 0 0,.slice none 0 0] 40)
 r2:W.heap[w.heap.size+2]? =some (.cells #[.int .u8 0,.slice none 0 0,.slice none 0 0] 40)
theorem NL.call {w W W':World}{C:Array Value}(h:NL w C W)(hb:Below W.heap.size W W'):NL w C W':=by
 have hz:=h.siz
 exact⟨below_then h.bel hb (lr_ _),Nat.le_trans hz hb.size,(hb.block _ (by omega)).trans h.arg,(hb.block _ (by omega)).trans h.r1,(hb.block _ (by omega)).trans h.r2⟩
theorem NL.new {w W:World}{C:Array Value}{v:Obj}(hv:v=.cells #[.int .u8 0,.slice none 0 0,.slice none 0 0] 40)(h:((w.alloc (.cells C 26)).alloc v).alloc v=W):NL w C W:=by
 subst h
 subst hv
 refine⟨((below_new _ _).alloc (by simp) _).alloc (by simp;omega) _,by simp,?_,?_,heap_is (by simp)⟩
 ·rw[heap_old_ _ _ (by simp only[size_new];omega),heap_old_ _ _ (by simp only[size_new];omega)];exact heap_new_ _ _
 ·rw[heap_old_ _ _ (by simp only[size_new];omega)];exact heap_is (by simp)
def BN (w W:World)(g:Nat)(n:Nd)(t:Int)(A:Option Addr)(l k:Nat)(K:Option Addr)(m u:Nat):Prop:=w.heap.size+3≤g∧W.heap[g]? =some (.cells #[.int .u8 t,.slice A l k,.slice K m u] 40)∧NdC (fun g=>w.heap.size+3≤g) W n (.int .u8 t) (.slice A l k) (.slice K m u)
theorem BN.call {w W W':World}{g:Nat}{n:Nd}{t:Int}{A:Option Addr}{l k:Nat}{K:Option Addr}{m u:Nat}(h:BN w W g n t A l k K m u)(hb:Below W.heap.size W W'):BN w W' g n t A l k K m u:=
 ⟨h.1,(hb.block _ (Array.getElem?_eq_some_iff.1 h.2.1).1).trans h.2.1,NdC.below hb _ _ _ _ h.2.2⟩
theorem BN.new {w w1 W:World}{n:Nd}{t:Int}{A:Option Addr}{l k:Nat}{K:Option Addr}{m u:Nat}{S:Nat→Prop}(hz:w.heap.size+3≤w1.heap.size)(hn:NdC S w1 n (.int .u8 t) (.slice A l k) (.slice K m u))(hS: ∀g,S g→w.heap.size+3≤g)(hW:w1.alloc (.cells #[.int .u8 t,.slice A l k,.slice K m u] 40)=W):BN w W w1.heap.size n t A l k K m u:=by
 subst hW
 exact⟨hz,heap_new_ _ _,NdC.mono hS _ _ _ _ (NdC.below (below_new _ _) _ _ _ _ hn)⟩
def NodesQ (w:World)(r:Option (Nd × Nd))(e:Ending)(w':World):Prop:=
 Below w.heap.size w w'∧match r with
 |none=>e=.returned (.tuple #[.agg #[.int .u8 0,.slice none 0 0,.slice none 0 0],.agg #[.int .u8 0,.slice none 0 0,.slice none 0 0],.int .i64 121])
 |some x=>∃t A l k K p u t' A' l' k' K' p' u',e=.returned (.tuple #[.agg #[.int .u8 t,.slice A l k,.slice K p u],.agg #[.int .u8 t',.slice A' l' k',.slice K' p' u'],.int .i64 0])∧NdC (fun g=>w.heap.size≤g) w' x.1 (.int .u8 t) (.slice A l k) (.slice K p u)∧NdC (fun g=>w.heap.size≤g) w' x.2 (.int .u8 t') (.slice A' l' k') (.slice K' p' u')
def nodesL (c:Cr):Option (Nd × Nd):=if rightL c=true then some (bodyL c,hNd c.sig) else none
theorem nfinL {w W:World}{C:Array Value}{t1 t2:Int}{A1 K1 A2 K2:Option Addr}{l1 k1 m1 u1 l2 k2 m2 u2:Nat}(h:NL w C W): ∀W',set3 (set3 W (w.heap.size+1) (.int .u8 t1) (.slice A1 l1 k1) (.slice K1 m1 u1)) (w.heap.size+2) (.int .u8 t2) (.slice A2 l2 k2) (.slice K2 m2 u2)=W'→
  (W'.cell? ⟨w.heap.size+1,0,none⟩=some (.int .u8 t1)∧W'.cell? ⟨w.heap.size+1,1,none⟩=some (.slice A1 l1 k1)∧W'.cell? ⟨w.heap.size+1,2,none⟩=some (.slice K1 m1 u1))∧(W'.cell? ⟨w.heap.size+2,0,none⟩=some (.int .u8 t2)∧W'.cell? ⟨w.heap.size+2,1,none⟩=some (.slice A2 l2 k2)∧W'.cell? ⟨w.heap.size+2,2,none⟩=some (.slice K2 m2 u2))∧
  Below w.heap.size w W'∧∀n c0 c1 c2,NdC (fun g=>w.heap.size+3≤g) W n c0 c1 c2→NdC (fun g=>w.heap.size≤g) W' n c0 c1 c2:=fun W' hW=>by
 subst hW
 have z1:=(set3_other (set3 W (w.heap.size+1) (.int .u8 t1) (.slice A1 l1 k1) (.slice K1 m1 u1)) (w.heap.size+2) (.int .u8 t2) (.slice A2 l2 k2) (.slice K2 m2 u2) (g:=w.heap.size+1) (by omega)).trans (set3_box h.r1 _ _ _)
 have z2:=set3_box ((set3_other W (w.heap.size+1) (.int .u8 t1) (.slice A1 l1 k1) (.slice K1 m1 u1) (g:=w.heap.size+2) (by omega)).trans h.r2) (.int .u8 t2) (.slice A2 l2 k2) (.slice K2 m2 u2)
 refine⟨(st3 z1).2,(st3 z2).2,set3_below (b:=w.heap.size+2) (by omega) (set3_below (b:=w.heap.size+1) (by omega) h.bel _ _ _) _ _ _,fun n c0 c1 c2 hn=>?_⟩
 refine NdC.mono (B:=fun g=>w.heap.size+3≤g) (fun g (hg:w.heap.size+3≤g)=>by omega) _ _ _ _ (NdC.stays ⟨by rw[set3_size,set3_size];exact lr_ _,fun p hp _=>cell_same ?_⟩ _ _ _ _ hn)
 have hp:w.heap.size+3≤p.block:=hp
 rw[set3_other _ _ _ _ _ (by omega),set3_other _ _ _ _ _ (by omega)]
theorem nodesL_no {c:Cr}(h:rightL c=false):nodesL c=none:=by unfold nodesL;rw[h];rfl
structure SG (w5:World) (ns:List Nd) (v:Value) (wx:World):Prop where
 bel:Below w5.heap.size w5 wx
 row:GRow ndE 40 w5.heap.size (fun g=>w5.heap.size≤g) wx v ns
theorem SG.push {w5 wx w2:World}{ns:List Nd}{v:Value}(h:SG w5 ns v wx)(hb:Below wx.heap.size wx w2){n:Nd}{k0 k1 k2:Value}(hn:NdC (fun g=>wx.heap.size≤g) w2 n k0 k1 k2)(hl:ns.length≤1000):
 ∃A c w4,(Builtin.append_ #[38,38] 38 #[v,.slice (some ⟨w2.heap.size,0,none⟩) 1 1]).run Tryz.prog (w2.alloc (.cells #[k0,k1,k2] 40))=.ok (.slice A (ns.length+1) c) w4∧SG w5 (ns++[n]) (.slice A (ns.length+1) c) w4:=by
 have hz:=h.bel.size
 have hz2:=hb.size
 have hb2:=below_then hb (below_new w2 (.cells #[k0,k1,k2] 40)) (lr_ _)
 have hrow:=h.row.below (fun g hg=>hg) hb2
 have hown:=h.row.lt
 have hnx:=NdC.below (below_new w2 (.cells #[k0,k1,k2] 40)) _ _ _ _ hn
 have hbox:=heap_new_ w2 (.cells #[k0,k1,k2] 40)
 have hs2:w2.heap.size< (w2.alloc (.cells #[k0,k1,k2] 40)).heap.size:=by simp
 have ne: ∀g,wx.heap.size≤g→some g≠v.ownBlock:=fun g hg e=>by have:=(hown g e.symm).2;omega
 obtain⟨v',w4,hr,hrow',hgr⟩:=hrow.app (E:=ndE) Tryz.infN (fun g hg=>hg) 38 (g:=w2.heap.size) (off:=0) (c:=1) (x:=n) (news:=[k0,k1,k2]) ⟨by omega,hs2,ne _ hz2⟩
  (fun j u hu=>by
    rw[Nat.zero_add,ch_ hbox]
    match j,hu with
    |0,hu=>exact hu
    |1,hu=>exact hu
    |2,hu=>exact hu
    |j+3,hu=>simp at hu)
  ⟨k0,k1,k2,rfl,NdC.mono (fun g hg=>⟨Nat.le_trans hz hg.1,hg.2,ne g hg.1⟩) _ _ _ _ (NdC.bound _ _ _ _ hnx)⟩ (by omega) (by unfold maxLen;omega) (by omega)
 obtain⟨A,c,rfl,hc1,hc2⟩:=hrow'.shape
 rw[show(ns++[n]).length=ns.length+1 by simp] at hr hrow'
 exact⟨A,c,w4,hr,(below_then h.bel hb2 (lr_ _)).grown hgr (by omega) (fun j hj=>by have:=(hown j hj).1;omega),hrow'⟩
def KQ (w wr:World)(b1 b2 b3:Nat)(t1:Int)(D1:Option Addr)(d1 g1:Nat)(K1:Option Addr)(q1 u1:Nat)(t2:Int)(D2:Option Addr)(d2 g2:Nat)(K2:Option Addr)(q2 u2:Nat)(t3:Int)(D3:Option Addr)(d3 g3:Nat)(K3:Option Addr)(q3 u3:Nat)(X:World):Prop:=
 (X.heap[b1]? =some (.cells #[.int .u8 t1,.slice D1 d1 g1,.slice K1 q1 u1] 40))∧(X.heap[b2]? =some (.cells #[.int .u8 t2,.slice D2 d2 g2,.slice K2 q2 u2] 40))∧X.heap[b3]? =some (.cells #[.int .u8 t3,.slice D3 d3 g3,.slice K3 q3 u3] 40)
theorem KQ.set {w wr X:World}{b1 b2 b3 g:Nat}{t1:Int}{D1:Option Addr}{d1 g1:Nat}{K1:Option Addr}{q1 u1:Nat}{t2:Int}{D2:Option Addr}{d2 g2:Nat}{K2:Option Addr}{q2 u2:Nat}{t3:Int}{D3:Option Addr}{d3 g3:Nat}{K3:Option Addr}{q3 u3:Nat}(h:KQ w wr b1 b2 b3 t1 D1 d1 g1 K1 q1 u1 t2 D2 d2 g2 K2 q2 u2 t3 D3 d3 g3 K3 q3 u3 X)(h1:b1≠g)(h2:b2≠g)(h3:b3≠g)(y0 y1 y2:Value):KQ w wr b1 b2 b3 t1 D1 d1 g1 K1 q1 u1 t2 D2 d2 g2 K2 q2 u2 t3 D3 d3 g3 K3 q3 u3 (set3 X g y0 y1 y2):=
 ⟨(set3_other _ _ _ _ _ h1).trans h.1,(set3_other _ _ _ _ _ h2).trans h.2.1,(set3_other _ _ _ _ _ h3).trans h.2.2⟩
theorem nbody {w wr w8 wn wb:World}{c:Cr}{t1 t2 t3:Int}{D1 D2 D3 K1 K2 K3 Av:Option Addr}{d1 g1 q1 u1 d2 g2 q2 u2 d3 g3 q3 u3 l cv:Nat}(hz:w.heap.size+3≤wr.heap.size)
 (n1:NdC (fun g=>w.heap.size+3≤g) wr (nameN c.iss) (.int .u8 t1) (.slice D1 d1 g1) (.slice K1 q1 u1)) (n2:NdC (fun g=>w.heap.size+3≤g) wr (timeNd c.ths) (.int .u8 t2) (.slice D2 d2 g2) (.slice K2 q2 u2)) (n3:NdC (fun g=>w.heap.size+3≤g) wr (timeNd c.nxt) (.int .u8 t3) (.slice D3 d3 g3) (.slice K3 q3 u3)) (n5:NdC (fun g=>w.heap.size+3≤g) wr (sersN c.sers) (.int .u8 48) (.slice none 0 0) (.slice Av l cv))
 (h8:Below wr.heap.size wr w8) (hn:Below w8.heap.size w8 wn) (hq:wn.heap[w8.heap.size]? =some (.cells #[.int .u8 t1,.slice D1 d1 g1,.slice K1 q1 u1,.int .u8 t2,.slice D2 d2 g2,.slice K2 q2 u2,.int .u8 t3,.slice D3 d3 g3,.slice K3 q3 u3,.int .u8 48,.slice none 0 0,.slice Av l cv] 40)) (hb:Below wn.heap.size wn wb):
 NdC (fun g=>w.heap.size+3≤g) wb (bodyL c) (.int .u8 48) (.slice none 0 0) (.slice (some ⟨w8.heap.size,0,none⟩) 4 4):=by
 have hbw:=below_then (below_then h8 hn (lr_ _)) hb (lr_ _)
 have z1:=h8.size
 have z2:=hn.size
 have z3:=hb.size
 have hql:=(Array.getElem?_eq_some_iff.1 hq).1
 have tr: ∀n c0 c1 c2,NdC (fun g=>w.heap.size+3≤g) wr n c0 c1 c2→NdC (Fr (fun g=>w.heap.size+3≤g) wb.heap.size (some w8.heap.size)) wb n c0 c1 c2:=fun n c0 c1 c2 h=>NdC.mono (fun g hg=>⟨hg.1,by have:=hg.2;omega,fun e=>by have:=Option.some.inj e;have:=hg.2;omega⟩) _ _ _ _ (NdC.below hbw _ _ _ _ (NdC.bound _ _ _ _ h))
 have hG:=grow_new (E:=ndE) (base:=w.heap.size+3) (Y:=fun g=>w.heap.size+3≤g) (n:=4) ((hb.block _ hql).trans hq) rfl (by omega) rfl rfl (by decide) (all_nd (tr _ _ _ _ n1) (all_nd (tr _ _ _ _ n2) (all_nd (tr _ _ _ _ n3) (all_nd (tr _ _ _ _ n5) all_nil))))
 obtain⟨_,_,e,h1,h2,h3⟩:=hG.lst (fun g hg=>hg)
 simp only[Value.slice.injEq] at e
 obtain⟨rfl,_,rfl⟩:=e
 exact ndC_of (by omega) h1 h2 h3
theorem nodesR_any (B:Nat→Prop)(c:Cr)(c0 c1 c2 c3 c4:Value)(w:World)(hx:CrC B w c c0 c1 c2 c3 c4)(hT:Tabs w):
 Calls Tryz.prog 15 #[.agg #[c0,c1,c2,c3,c4]] w (NodesQ w (nodesL c)):=by
 have mixed:Tryz.prog.follows Departure.mixedOrders=true:=by kernel_rfl
 obtain⟨A0,l0,k0,a1,a2,A3,l3,k3,a4,rfl,rfl,rfl,rfl,rfl⟩:=hx.shape
 obtain⟨W0,hW0⟩:=nm_ (((w.alloc (.cells #[.slice A0 l0 k0,.int .i64 a1,.int .i64 a2,.slice A3 l3 k3,.int .i64 a4] 26)).alloc (.cells #[.int .u8 0,.slice none 0 0,.slice none 0 0] 40)).alloc (.cells #[.int .u8 0,.slice none 0 0,.slice none 0 0] 40))
 have HN0:=hd_ (NL.new rfl hW0)
 have hL:=ls4 (hx.iss.below HN0.out.bel)
 have HC1:=hd_ ((put_any _ A0 l0 k0 c.iss W0 hL.1 hL.2.2.2 hL.2.1 hL.2.2.1 (hT.below HN0.out.bel)).mono fun _ _=>nst_put)
 have HS:=hd_ (ai_ (show a1=c.ths by have:=hx.ths.1;simpa using this) (ai_ (show a2=c.nxt by have:=hx.nxt.1;simpa using this) (show a4=c.sig by have:=hx.sig.1;simpa using this)))
 have HT:=hd_ (ai_ hx.ths.2 (ai_ hx.nxt.2 (ai_ hx.sig.2 (inC_ins hx.sers))))
 obtain⟨R,hR⟩:=nm_ (nodesL c)
 rw[hR]
 have HR:=hd_ hR
 have e0:=(box5 HN0.out.arg).1
 clear hL hx hT hR
 go_enter Tryz.func15,Tryz.ntmps15
 go_wp2_with fail
 clear e0
 refine HC1.out.mono ?_
 rintro e w1 ⟨hb,n1,t1,D1,d1,g1,K1,q1,u1,er1,rfl,hn,hr⟩
 obtain⟨W1,hW1⟩:=nm_ (w1.alloc (.cells #[.int .u8 t1,.slice D1 d1 g1,.slice K1 q1 u1] 40))
 have hNL:=(HN0.out.call hb).call (W':=W1) (by rw[←hW1];exact below_new _ _)
 have hB1:=BN.new (w:=w) (HN0.out.call hb).siz hn (fun g (hg:W0.heap.size≤g)=>by have:=HN0.out.siz;omega) hW1
 obtain⟨b1,hb1⟩:=nm_ w1.heap.size
 rw[hb1] at hB1
 have HN1:=hd_ hNL
 have HB1:=hd_ hB1
 have HQ1:=hd_ hr
 have e1:=(box5 hNL.arg).2.1
 have HC2:=hd_ (timeNode_any a1 W1 (by rw[HS.out.1];exact HT.out.1))
 clear hb hn hr hNL hB1 HC1
 go_wp2_with fail
 clear e1
 refine HC2.out.mono ?_
 rintro e w2 ⟨hb,n2,t2,D2,d2,g2,K2,q2,u2,er2,rfl,hn,hr⟩
 obtain⟨W2,hW2⟩:=nm_ (w2.alloc (.cells #[.int .u8 t2,.slice D2 d2 g2,.slice K2 q2 u2] 40))
 have hbn:Below w2.heap.size w2 W2:=by rw[←hW2];exact below_new _ _
 have hNL:=(HN1.out.call hb).call hbn
 have hB2:=BN.new (w:=w) (HN1.out.call hb).siz hn (fun g (hg:W1.heap.size≤g)=>by have:=HN1.out.siz;omega) hW2
 have hB1:=(HB1.out.call hb).call hbn
 obtain⟨b2,hb2⟩:=nm_ w2.heap.size
 rw[hb2] at hB2
 have HN2:=hd_ hNL
 have HB2:=hd_ (ai_ hB1 hB2)
 have HQ2:=hd_ hr
 have e2:=(box5 hNL.arg).2.2.1
 have HC3:=hd_ (timeNode_any a2 W2 (by rw[HS.out.2.1];exact HT.out.2.1))
 clear hb hn hr hNL hB1 hB2 hbn HC2 HB1 HN1
 go_wp2_with fail
 clear e2
 refine HC3.out.mono ?_
 rintro e w3 ⟨hb,n3,t3,D3,d3,g3,K3,q3,u3,er3,rfl,hn,hr⟩
 obtain⟨W3,hW3⟩:=nm_ (w3.alloc (.cells #[.int .u8 t3,.slice D3 d3 g3,.slice K3 q3 u3] 40))
 have hbn:Below w3.heap.size w3 W3:=by rw[←hW3];exact below_new _ _
 have hNL:=(HN2.out.call hb).call hbn
 have hB3:=BN.new (w:=w) (HN2.out.call hb).siz hn (fun g (hg:W2.heap.size≤g)=>by have:=HN2.out.siz;omega) hW3
 have hB1:=(HB2.out.1.call hb).call hbn
 have hB2:=(HB2.out.2.call hb).call hbn
 obtain⟨b3,hb3⟩:=nm_ w3.heap.size
 rw[hb3] at hB3
 have HN3:=hd_ hNL
 have HB3:=hd_ (ai_ hB1 (ai_ hB2 hB3))
 have HQ3:=hd_ hr
 have e4:=(box5 hNL.arg).2.2.2.2
 clear hb hn hr hNL hB1 hB2 hB3 hbn HC3 HB2 HN2
 by_cases p4: ¬hOK c.sig=true
 ·have p4:=Bool.eq_false_iff.2 p4
  have HK4:=hd_ p4
  have HC4:=hd_ (bytes_no a4 W3 (by rw[HS.out.2.2];exact HT.out.2.2.1) (fun k=>by rw[HS.out.2.2] at k;rw[hOK_iff.2 k] at p4;cases p4))
  have hnil:=fun W=>eql_nil (P:=Tryz.prog) W 28 5 none 0 0 Tryz.underlying28
  clear p4
  go_wp2_with fail
  clear e4
  refine HC4.out.mono ?_
  rintro e w4 ⟨rfl,rfl⟩
  clear HC4
  by_cases p1: ¬rightN c.iss=true
  ·have hr:=HQ1.out
   rw[nameF_of] at hr;rw[if_neg p1] at hr
   have hr:er1≠0:=hr
   have HK1:=hd_ (Bool.eq_false_iff.2 p1)
   clear p1
   obtain⟨⟨f0,f1,f2⟩,s0,s1,s2⟩:=st3 HN3.out.r1
   obtain⟨⟨f3,f4,f5⟩,s3,s4,s5⟩:=st3 HN3.out.r2
   have hne: ¬w.heap.size+2=w.heap.size+1:=by omega
   have HF:=hd_ (nfinL (t1:=0) (t2:=0) (A1:=none) (A2:=none) (K1:=none) (K2:=none) (l1:=0) (k1:=0) (m1:=0) (u1:=0) (l2:=0) (k2:=0) (m2:=0) (u2:=0) HN3.out _ rfl)
   have HRR:=hd_ (show none=R by rw[←HR.out];exact(nodesL_no (by unfold rightL;rw[HK1.out];simp)).symm)
   go_wp2
   obtain⟨⟨r0,r1,r2⟩,⟨r3,r4,r5⟩,hP,_⟩:=HF.out
   refine bodyPost_ret (v:=.tuple #[.agg #[.int .u8 0,.slice none 0 0,.slice none 0 0],.agg #[.int .u8 0,.slice none 0 0,.slice none 0 0],.int .i64 121]) ?_ rfl (by rw[←HRR.out];exact⟨hP,rfl⟩)
   unfold set3 at r0 r1 r2 r3 r4 r5
   simp[results,Tryz.results15,go_sem,r0,r1,r2,r3,r4,r5]
  have hr:=HQ1.out
  have p1:=Classical.not_not.1 p1
  rw[nameF_of] at hr;rw[if_pos p1] at hr
  obtain⟨rfl,rfl⟩:=hr
  have HK1:=hd_ p1
  clear p1 HQ1
  by_cases p2: ¬inRB c.ths=true
  ·have hr:=HQ2.out
   rw[HS.out.1] at hr;rw[if_neg p2] at hr
   have hr:er2≠0:=hr
   have HK2:=hd_ (Bool.eq_false_iff.2 p2)
   clear p2
   obtain⟨⟨f0,f1,f2⟩,s0,s1,s2⟩:=st3 HN3.out.r1
   obtain⟨⟨f3,f4,f5⟩,s3,s4,s5⟩:=st3 HN3.out.r2
   have hne: ¬w.heap.size+2=w.heap.size+1:=by omega
   have HF:=hd_ (nfinL (t1:=0) (t2:=0) (A1:=none) (A2:=none) (K1:=none) (K2:=none) (l1:=0) (k1:=0) (m1:=0) (u1:=0) (l2:=0) (k2:=0) (m2:=0) (u2:=0) HN3.out _ rfl)
   have HRR:=hd_ (show none=R by rw[←HR.out];exact(nodesL_no (by unfold rightL;rw[HK2.out];simp)).symm)
   go_wp2
   obtain⟨⟨r0,r1,r2⟩,⟨r3,r4,r5⟩,hP,_⟩:=HF.out
   refine bodyPost_ret (v:=.tuple #[.agg #[.int .u8 0,.slice none 0 0,.slice none 0 0],.agg #[.int .u8 0,.slice none 0 0,.slice none 0 0],.int .i64 121]) ?_ rfl (by rw[←HRR.out];exact⟨hP,rfl⟩)
   unfold set3 at r0 r1 r2 r3 r4 r5
   simp[results,Tryz.results15,go_sem,r0,r1,r2,r3,r4,r5]
  have hr:=HQ2.out
  have p2:=Classical.not_not.1 p2
  rw[HS.out.1] at hr;rw[if_pos p2] at hr
  obtain⟨rfl,rfl⟩:=hr
  have HK2:=hd_ p2
  clear p2 HQ2
  by_cases p3: ¬inRB c.nxt=true
  ·have hr:=HQ3.out
   rw[HS.out.2.1] at hr;rw[if_neg p3] at hr
   have hr:er3≠0:=hr
   have HK3:=hd_ (Bool.eq_false_iff.2 p3)
   clear p3
   obtain⟨⟨f0,f1,f2⟩,s0,s1,s2⟩:=st3 HN3.out.r1
   obtain⟨⟨f3,f4,f5⟩,s3,s4,s5⟩:=st3 HN3.out.r2
   have hne: ¬w.heap.size+2=w.heap.size+1:=by omega
   have HF:=hd_ (nfinL (t1:=0) (t2:=0) (A1:=none) (A2:=none) (K1:=none) (K2:=none) (l1:=0) (k1:=0) (m1:=0) (u1:=0) (l2:=0) (k2:=0) (m2:=0) (u2:=0) HN3.out _ rfl)
   have HRR:=hd_ (show none=R by rw[←HR.out];exact(nodesL_no (by unfold rightL;rw[HK3.out];simp)).symm)
   go_wp2
   obtain⟨⟨r0,r1,r2⟩,⟨r3,r4,r5⟩,hP,_⟩:=HF.out
   refine bodyPost_ret (v:=.tuple #[.agg #[.int .u8 0,.slice none 0 0,.slice none 0 0],.agg #[.int .u8 0,.slice none 0 0,.slice none 0 0],.int .i64 121]) ?_ rfl (by rw[←HRR.out];exact⟨hP,rfl⟩)
   unfold set3 at r0 r1 r2 r3 r4 r5
   simp[results,Tryz.results15,go_sem,r0,r1,r2,r3,r4,r5]
  have hr:=HQ3.out
  have p3:=Classical.not_not.1 p3
  rw[HS.out.2.1] at hr;rw[if_pos p3] at hr
  obtain⟨rfl,rfl⟩:=hr
  have HK3:=hd_ p3
  clear p3 HQ3
  obtain⟨⟨f0,f1,f2⟩,s0,s1,s2⟩:=st3 HN3.out.r1
  obtain⟨⟨f3,f4,f5⟩,s3,s4,s5⟩:=st3 HN3.out.r2
  have hne: ¬w.heap.size+2=w.heap.size+1:=by omega
  have HF:=hd_ (nfinL (t1:=0) (t2:=0) (A1:=none) (A2:=none) (K1:=none) (K2:=none) (l1:=0) (k1:=0) (m1:=0) (u1:=0) (l2:=0) (k2:=0) (m2:=0) (u2:=0) HN3.out _ rfl)
  have HRR:=hd_ (show none=R by rw[←HR.out];exact(nodesL_no (by unfold rightL;rw[HK4.out];simp)).symm)
  go_wp2
  obtain⟨⟨r0,r1,r2⟩,⟨r3,r4,r5⟩,hP,_⟩:=HF.out
  refine bodyPost_ret (v:=.tuple #[.agg #[.int .u8 0,.slice none 0 0,.slice none 0 0],.agg #[.int .u8 0,.slice none 0 0,.slice none 0 0],.int .i64 121]) ?_ rfl (by rw[←HRR.out];exact⟨hP,rfl⟩)
  unfold set3 at r0 r1 r2 r3 r4 r5
  simp[results,Tryz.results15,go_sem,r0,r1,r2,r3,r4,r5]
 have p4:=Classical.not_not.1 p4
 have HK4:=hd_ p4
 have h4:0≤a4∧a4<281474976710656:=by rw[HS.out.2.2];exact hOK_iff.1 p4
 have HC4:=hd_ (bytes_yes a4 W3 h4)
 obtain⟨W4,hW4⟩:=nm_ (W3.alloc (.cells (vals (hbF a4)).toArray 5))
 have hbn:Below W3.heap.size W3 W4:=by rw[←hW4];exact below_new _ _
 have hby:=hb_bys a4 W3 h4
 rw[hW4] at hby HC4
 have hNL:=HN3.out.call hbn
 have HN4:=hd_ hNL
 have HB4:=hd_ (ai_ (HB3.out.1.call hbn) (ai_ (HB3.out.2.1.call hbn) (HB3.out.2.2.call hbn)))
 obtain⟨b4,hb4⟩:=nm_ W3.heap.size
 have hb4z:w.heap.size+3≤b4:=by rw[←hb4];exact HN3.out.siz
 rw[hb4] at hby HC4
 have HY:=hd_ (ai_ (show NdC (fun g=>w.heap.size+3≤g) W4 (hNd c.sig) (.int .u8 4) (.slice (some ⟨b4,0,none⟩) 8 8) (.slice none 0 0) by rw[←HS.out.2.2];exact ndC_leaf (by omega) (lr_ _) (by decide) hby (fun _ g off sp e=>by cases e;exact hb4z)) hb4z)
 have hnil:=fun W=>eql_nil (P:=Tryz.prog) W 28 5 (some ⟨b4,0,none⟩) 8 8 Tryz.underlying28
 clear p4 h4 hby hbn hNL HB3 hb4z
 go_wp2_with fail
 clear e4
 refine HC4.out.mono ?_
 rintro e w4 ⟨rfl,rfl⟩
 clear HC4 HN3 hb4
 by_cases p1: ¬rightN c.iss=true
 ·have hr:=HQ1.out
  rw[nameF_of] at hr;rw[if_neg p1] at hr
  have hr:er1≠0:=hr
  have HK1:=hd_ (Bool.eq_false_iff.2 p1)
  clear p1
  obtain⟨⟨f0,f1,f2⟩,s0,s1,s2⟩:=st3 HN4.out.r1
  obtain⟨⟨f3,f4,f5⟩,s3,s4,s5⟩:=st3 HN4.out.r2
  have hne: ¬w.heap.size+2=w.heap.size+1:=by omega
  have HF:=hd_ (nfinL (t1:=0) (t2:=0) (A1:=none) (A2:=none) (K1:=none) (K2:=none) (l1:=0) (k1:=0) (m1:=0) (u1:=0) (l2:=0) (k2:=0) (m2:=0) (u2:=0) HN4.out _ rfl)
  have HRR:=hd_ (show none=R by rw[←HR.out];exact(nodesL_no (by unfold rightL;rw[HK1.out];simp)).symm)
  go_wp2
  obtain⟨⟨r0,r1,r2⟩,⟨r3,r4,r5⟩,hP,_⟩:=HF.out
  refine bodyPost_ret (v:=.tuple #[.agg #[.int .u8 0,.slice none 0 0,.slice none 0 0],.agg #[.int .u8 0,.slice none 0 0,.slice none 0 0],.int .i64 121]) ?_ rfl (by rw[←HRR.out];exact⟨hP,rfl⟩)
  unfold set3 at r0 r1 r2 r3 r4 r5
  simp[results,Tryz.results15,go_sem,r0,r1,r2,r3,r4,r5]
 have hr:=HQ1.out
 have p1:=Classical.not_not.1 p1
 rw[nameF_of] at hr;rw[if_pos p1] at hr
 obtain⟨rfl,rfl⟩:=hr
 have HK1:=hd_ p1
 clear p1 HQ1
 by_cases p2: ¬inRB c.ths=true
 ·have hr:=HQ2.out
  rw[HS.out.1] at hr;rw[if_neg p2] at hr
  have hr:er2≠0:=hr
  have HK2:=hd_ (Bool.eq_false_iff.2 p2)
  clear p2
  obtain⟨⟨f0,f1,f2⟩,s0,s1,s2⟩:=st3 HN4.out.r1
  obtain⟨⟨f3,f4,f5⟩,s3,s4,s5⟩:=st3 HN4.out.r2
  have hne: ¬w.heap.size+2=w.heap.size+1:=by omega
  have HF:=hd_ (nfinL (t1:=0) (t2:=0) (A1:=none) (A2:=none) (K1:=none) (K2:=none) (l1:=0) (k1:=0) (m1:=0) (u1:=0) (l2:=0) (k2:=0) (m2:=0) (u2:=0) HN4.out _ rfl)
  have HRR:=hd_ (show none=R by rw[←HR.out];exact(nodesL_no (by unfold rightL;rw[HK2.out];simp)).symm)
  go_wp2
  obtain⟨⟨r0,r1,r2⟩,⟨r3,r4,r5⟩,hP,_⟩:=HF.out
  refine bodyPost_ret (v:=.tuple #[.agg #[.int .u8 0,.slice none 0 0,.slice none 0 0],.agg #[.int .u8 0,.slice none 0 0,.slice none 0 0],.int .i64 121]) ?_ rfl (by rw[←HRR.out];exact⟨hP,rfl⟩)
  unfold set3 at r0 r1 r2 r3 r4 r5
  simp[results,Tryz.results15,go_sem,r0,r1,r2,r3,r4,r5]
 have hr:=HQ2.out
 have p2:=Classical.not_not.1 p2
 rw[HS.out.1] at hr;rw[if_pos p2] at hr
 obtain⟨rfl,rfl⟩:=hr
 have HK2:=hd_ p2
 clear p2 HQ2
 by_cases p3: ¬inRB c.nxt=true
 ·have hr:=HQ3.out
  rw[HS.out.2.1] at hr;rw[if_neg p3] at hr
  have hr:er3≠0:=hr
  have HK3:=hd_ (Bool.eq_false_iff.2 p3)
  clear p3
  obtain⟨⟨f0,f1,f2⟩,s0,s1,s2⟩:=st3 HN4.out.r1
  obtain⟨⟨f3,f4,f5⟩,s3,s4,s5⟩:=st3 HN4.out.r2
  have hne: ¬w.heap.size+2=w.heap.size+1:=by omega
  have HF:=hd_ (nfinL (t1:=0) (t2:=0) (A1:=none) (A2:=none) (K1:=none) (K2:=none) (l1:=0) (k1:=0) (m1:=0) (u1:=0) (l2:=0) (k2:=0) (m2:=0) (u2:=0) HN4.out _ rfl)
  have HRR:=hd_ (show none=R by rw[←HR.out];exact(nodesL_no (by unfold rightL;rw[HK3.out];simp)).symm)
  go_wp2
  obtain⟨⟨r0,r1,r2⟩,⟨r3,r4,r5⟩,hP,_⟩:=HF.out
  refine bodyPost_ret (v:=.tuple #[.agg #[.int .u8 0,.slice none 0 0,.slice none 0 0],.agg #[.int .u8 0,.slice none 0 0,.slice none 0 0],.int .i64 121]) ?_ rfl (by rw[←HRR.out];exact⟨hP,rfl⟩)
  unfold set3 at r0 r1 r2 r3 r4 r5
  simp[results,Tryz.results15,go_sem,r0,r1,r2,r3,r4,r5]
 have hr:=HQ3.out
 have p3:=Classical.not_not.1 p3
 rw[HS.out.2.1] at hr;rw[if_pos p3] at hr
 obtain⟨rfl,rfl⟩:=hr
 have HK3:=hd_ p3
 clear p3 HQ3
 have e3:=(box5 HN4.out.arg).2.2.2.1
 have HC5:=hd_ (sersRight_any A3 l3 k3 c.sers w4 (HT.out.2.2.2.2.2.1.below HN4.out.bel) HT.out.2.2.2.1 HT.out.2.2.2.2.1)
 obtain⟨S,hS⟩:=nm_ (sersB c.sers)
 rw[hS] at HC5
 have HK5:=hd_ hS
 clear hS
 go_wp2_with fail
 clear e3
 refine HC5.out.mono ?_
 rintro e w5 ⟨rfl,hb5⟩
 have HN5:=hd_ (HN4.out.call hb5)
 have HB5:=hd_ (ai_ (HB4.out.1.call hb5) (ai_ (HB4.out.2.1.call hb5) (ai_ (HB4.out.2.2.call hb5) (NdC.below hb5 _ _ _ _ HY.out.1))))
 clear hb5 HC5 HB4 HN4 HY
 cases S with
 |false=>
  obtain⟨⟨f0,f1,f2⟩,s0,s1,s2⟩:=st3 HN5.out.r1
  obtain⟨⟨f3,f4,f5⟩,s3,s4,s5⟩:=st3 HN5.out.r2
  have hne: ¬w.heap.size+2=w.heap.size+1:=by omega
  have HF:=hd_ (nfinL (t1:=0) (t2:=0) (A1:=none) (A2:=none) (K1:=none) (K2:=none) (l1:=0) (k1:=0) (m1:=0) (u1:=0) (l2:=0) (k2:=0) (m2:=0) (u2:=0) HN5.out _ rfl)
  have HRR:=hd_ (show none=R by rw[←HR.out];exact(nodesL_no (by unfold rightL;rw[HK5.out];simp)).symm)
  go_wp2
  obtain⟨⟨r0,r1,r2⟩,⟨r3,r4,r5⟩,hP,_⟩:=HF.out
  refine bodyPost_ret (v:=.tuple #[.agg #[.int .u8 0,.slice none 0 0,.slice none 0 0],.agg #[.int .u8 0,.slice none 0 0,.slice none 0 0],.int .i64 121]) ?_ rfl (by rw[←HRR.out];exact⟨hP,rfl⟩)
  unfold set3 at r0 r1 r2 r3 r4 r5
  simp[results,Tryz.results15,go_sem,r0,r1,r2,r3,r4,r5]
 |true=>
  have HRR:=hd_ (show some (bodyL c,hNd c.sig)=R from by rw[←HR.out];unfold nodesL;rw[if_pos (by unfold rightL;rw[HK1.out,HK2.out,HK3.out,HK4.out,HK5.out];rfl)])
  have hins:=HT.out.2.2.2.2.2.1
  have hlen:c.sers.length=l3:=hins.len
  have h256:l3≤256:=by
   have h:=HK5.out
   unfold sersB at h
   rw[Bool.and_eq_true] at h
   rw[←hlen];exact of_decide_eq_true h.1
  have hi64:=hins.fit
  have HI:=hd_ (ai_ hlen (ai_ hi64 h256))
  have HJ:=hd_ (fun W (hW:Below w5.heap.size w5 W)=>hins.below (below_then HN5.out.bel hW (lr_ _)))
  have e3:=(box5 HN5.out.arg).2.2.2.1
  have h9:k3≤9223372036854775807:=by have:=HT.out.2.2.2.2.1;unfold maxLen at this;omega
  have hlk:=HT.out.2.2.2.1
  clear hins hlen h256 hi64
  go_wp2_with fail
  clear e3
  go_loopg [12,61] (l3+1) (fun gk s12 s61 wx=>∃(i:Nat) (Av:Option Addr) (cv:Nat),s12=.slice Av i cv∧s61=.int .i64 i∧i≤l3∧l3 - i<gk∧Hid (SG w5 ((c.sers.take i).map numN) (.slice Av i cv) wx))
  case atStart=>exact⟨0,none,0,rfl,rfl,by omega,by omega,hd_ ⟨Below.refl _ _,GRow.nil⟩⟩
  case round=>
   obtain⟨i,Av,cv,rfl,rfl,hi,hgk,HG⟩:=hrel
   by_cases hlt:i<l3
   ·have hltz:(i:Int)< (l3:Int):=by omega
    obtain⟨gk',rfl⟩: ∃g',gk=g'+1:=⟨gk - 1,by omega⟩
    have HM:=hd_ (ai_ (show i+1≤l3 from hlt) (show l3 - (i+1)<gk' by omega))
    have hin:=HJ.out wr HG.out.bel
    obtain⟨gb,off,rfl,hgb,hcell⟩:=hin.2.2 (by omega)
    have e0:=hcell i hlt
    have hy64:=hin.fit.getD i
    have hix:i<c.sers.length:=by rw[HI.out.1];exact hlt
    have htake:c.sers.take (i+1)=c.sers.take i++[c.sers.getD i 0]:=by
     rw[List.take_add_one,List.getD_eq_getElem?_getD,List.getElem?_eq_getElem hix];rfl
    obtain⟨y,hy⟩:=nm_ (c.sers.getD i 0)
    rw[hy] at e0 hy64 htake
    have HC:=hd_ (putInt_any y wr hy64)
    have HTK:=hd_ htake
    clear hin hcell hgb hy htake hix
    go_wp2_with fail
    refine HC.out.mono ?_
    rintro e w6 ⟨A6,c6,rfl,⟨y1,y2,y3,y4⟩,hb6⟩
    have hn6:NdC (fun g=>wr.heap.size≤g) w6 (numN y) (.int .u8 2) (.slice A6 (putI y).length c6) (.slice none 0 0):=ndC_leaf (by omega) y2 y3 y1 (fun hl g off sp e=>by
     obtain⟨g',off',e',_⟩:=y1.2.2 hl
     rw[e] at e'
     simp only[Option.some.injEq,Addr.mk.injEq] at e'
     obtain⟨rfl,rfl,rfl⟩:=e'
     exact(y4 _ _ e).1)
    have hil:((c.sers.take i).map numN).length=i:=by rw[List.length_map,List.length_take,HI.out.1];omega
    obtain⟨A7,c7,w7,hrun,hG7⟩:=HG.out.push hb6 hn6 (by rw[hil];have:=HI.out.2.2;omega)
    rw[hil] at hrun hG7
    have HG7:=hd_ (show SG w5 ((c.sers.take (i+1)).map numN) (.slice A7 (i+1) c7) w7 by rw[HTK.out,List.map_append];exact hG7)
    obtain⟨len,hln⟩:=nm_ (putI y).length
    rw[hln] at hrun⊢
    clear hn6 hil hG7 hln y1 y2 y3 y4 hb6 HC HTK HG e0
    go_wp2_with (at_builtin;refine wpl_append rfl (.tmp 65) (.tmp 69) 38 rfl _ _ _ rfl rfl hrun ?_)
    clear hrun
    go_wp2
    go_roundg gk'
    case measure=>omega
    case rel=>exact⟨i+1,A7,c7,by go_num,by go_num,HM.out.1,HM.out.2,HG7⟩
   ·obtain rfl:l3=i:=by omega
    have hltz: ¬(l3:Int)< (l3:Int):=by omega
    have hG:=HG.out
    rw[List.take_of_length_le (by rw[HI.out.1];exact lr_ _)] at hG
    obtain⟨wl,hwl⟩:=nm_ wr
    rw[hwl] at hG
    subst hwl
    have hN6:=HN5.out.call hG.bel
    have hB:=HB5.out
    have x1:=hB.1.call hG.bel
    have x2:=hB.2.1.call hG.bel
    have x3:=hB.2.2.1.call hG.bel
    have x4:=NdC.below hG.bel _ _ _ _ hB.2.2.2
    obtain⟨_,_,e6,hv1,hv2,hL⟩:=hG.row.lst (fun g hg=>hg)
    obtain⟨eA,eC⟩:Av=_∧cv=_:=by simp only[Value.slice.injEq] at e6;exact⟨e6.1,e6.2.2⟩
    clear e6
    subst eA eC
    have hml:((c.sers).map numN).length=l3:=by rw[List.length_map,HI.out.1]
    have x5:NdC (fun g=>w.heap.size+3≤g) wr (sersN c.sers) (.int .u8 48) (.slice none 0 0) (.slice Av l3 cv):=by
     have hc:l3≤cv:=by rw[←hml];exact hv1
     have:=ndC_of (B:=fun g=>w5.heap.size≤g) (w:=wr) (t:=48) (by omega) hv1 hv2 hL
     rw[hml] at this
     exact NdC.mono (fun g hg=>by have:=HN5.out.siz;omega) _ _ _ _ this
    have HX:=hd_ (ai_ hN6 (ai_ x1 (ai_ x2 (ai_ x3 (ai_ x4 x5)))))
    clear hG hN6 hB x1 x2 x3 x4 x5 hL hml HB5 HN5 HG hgk hi HJ hv1 hv2
    go_upto_region 13 with fail
    try dsimp only
    refine wp_region_noPanic ?_
    refine rh_ mixed (S:=fun X:World=>(X.cell? ⟨b1,0,none⟩=some (.int .u8 t1)∧X.cell? ⟨b1,1,none⟩=some (.slice D1 d1 g1)∧X.cell? ⟨b1,2,none⟩=some (.slice K1 q1 u1))∧(X.cell? ⟨b2,0,none⟩=some (.int .u8 t2)∧X.cell? ⟨b2,1,none⟩=some (.slice D2 d2 g2)∧X.cell? ⟨b2,2,none⟩=some (.slice K2 q2 u2))∧X.cell? ⟨b3,0,none⟩=some (.int .u8 t3)∧X.cell? ⟨b3,1,none⟩=some (.slice D3 d3 g3)∧X.cell? ⟨b3,2,none⟩=some (.slice K3 q3 u3)) (K:=KQ w wr b1 b2 b3 t1 D1 d1 g1 K1 q1 u1 t2 D2 d2 g2 K2 q2 u2 t3 D3 d3 g3 K3 q3 u3) (fun X h=>ai_ (st3 h.1).2 (ai_ (st3 h.2.1).2 (st3 h.2.2).2)) (ai_ HX.out.2.1.2.1 (ai_ HX.out.2.2.1.2.1 HX.out.2.2.2.1.2.1)) (fun hHeld=>?_)
    have HB3:=hd_ (ai_ HX.out.2.1.1 (ai_ HX.out.2.2.1.1 HX.out.2.2.2.1.1))
    have HKQ:=hd_ (fun X (hX:Below wr.heap.size wr X)=>(show KQ w wr b1 b2 b3 t1 D1 d1 g1 K1 q1 u1 t2 D2 d2 g2 K2 q2 u2 t3 D3 d3 g3 K3 q3 u3 X from⟨(HX.out.2.1.call hX).2.1,(HX.out.2.2.1.call hX).2.1,(HX.out.2.2.2.1.call hX).2.1⟩))
    have HSS:=hd_ (fun X (h:KQ w wr b1 b2 b3 t1 D1 d1 g1 K1 q1 u1 t2 D2 d2 g2 K2 q2 u2 t3 D3 d3 g3 K3 q3 u3 X)=>ai_ (st3 h.1).2 (ai_ (st3 h.2.1).2 (st3 h.2.2).2))
    have hbd:=below_drew wr
    obtain⟨wd,hwd⟩:=nm_ (wr.drew)
    rw[hwd] at hHeld hbd⊢
    clear hwd
    refine tk_ (i:=0) (z:=?_)
    refine tk_ (i:=1) (z:=?_)
    refine tk_ (i:=2) (z:=?_)
    refine tk_ (i:=3) (z:=?_)
    refine tk_ (i:=7) (z:=?_)
    refine tk_ (i:=8) (z:=?_)
    refine on_ (i:=4) (z:=fun KK hKK=>?_)
    go_simp
    refine(seqC_any _ _ _ wd).mono ?_
    rintro e w8 ⟨rfl,hb8⟩
    dsimp only
    have hb8:=below_then hbd hb8 (lr_ _)
    refine hKK.out _ _ (HSS.out _ (HKQ.out _ hb8)) (fun hHeld=>?_)
    clear hKK KK hbd
    try simp only[Act.put,qa_,qb_,qc_]
    refine on_ (i:=5) (z:=fun KK hKK=>?_)
    go_simp
    have hbn:=below_new w8 (.cells #[.int .u8 t1,.slice D1 d1 g1,.slice K1 q1 u1,.int .u8 t2,.slice D2 d2 g2,.slice K2 q2 u2,.int .u8 t3,.slice D3 d3 g3,.slice K3 q3 u3,.int .u8 48,.slice none 0 0,.slice Av l3 cv] 40)
    have hqn:=heap_new_ w8 (.cells #[.int .u8 t1,.slice D1 d1 g1,.slice K1 q1 u1,.int .u8 t2,.slice D2 d2 g2,.slice K2 q2 u2,.int .u8 t3,.slice D3 d3 g3,.slice K3 q3 u3,.int .u8 48,.slice none 0 0,.slice Av l3 cv] 40)
    obtain⟨wn,hwn⟩:=nm_ (w8.alloc (.cells #[.int .u8 t1,.slice D1 d1 g1,.slice K1 q1 u1,.int .u8 t2,.slice D2 d2 g2,.slice K2 q2 u2,.int .u8 t3,.slice D3 d3 g3,.slice K3 q3 u3,.int .u8 48,.slice none 0 0,.slice Av l3 cv] 40))
    rw[hwn] at hbn hqn⊢
    refine hKK.out _ _ (HSS.out _ (HKQ.out _ (below_then hb8 hbn (lr_ _)))) (fun hHeld=>?_)
    clear hKK KK hwn
    try simp only[Act.put,qa_,qb_,qc_]
    have H8:=hd_ (ai_ hb8 (ai_ hbn hqn))
    clear hb8 hbn hqn
    refine on_ (i:=6) (z:=fun KK hKK=>?_)
    go_simp
    refine(seqC_any _ _ _ wn).mono ?_
    rintro e wb ⟨rfl,hbb⟩
    dsimp only
    have hk:=below_then (below_then H8.out.1 H8.out.2.1 (lr_ _)) hbb (lr_ _)
    refine hKK.out _ _ (HSS.out _ (HKQ.out _ hk)) (fun hHeld=>?_)
    clear hKK KK
    try simp only[Act.put,qa_,qb_,qc_]
    have hNb:=HX.out.1.call hk
    have hbody:=nbody HX.out.1.siz HX.out.2.1.2.2 HX.out.2.2.1.2.2 HX.out.2.2.2.1.2.2 HX.out.2.2.2.2.2 H8.out.1 H8.out.2.1 H8.out.2.2 hbb
    have hsig:=NdC.below hk _ _ _ _ HX.out.2.2.2.2.1
    have HF:=hd_ (nfinL (t1:=48) (t2:=4) (A1:=none) (A2:=some ⟨b4,0,none⟩) (K1:=some ⟨w8.heap.size,0,none⟩) (K2:=none) (l1:=0) (k1:=0) (m1:=4) (u1:=4) (l2:=8) (k2:=8) (m2:=0) (u2:=0) hNb _ rfl)
    have HD:=hd_ (ai_ hbody hsig)
    have HKb:=hd_ (HKQ.out _ hk)
    obtain⟨⟨f0,f1,f2⟩,s0,s1,s2⟩:=st3 hNb.r1
    obtain⟨⟨f3,f4,f5⟩,s3,s4,s5⟩:=st3 hNb.r2
    have hne: ¬w.heap.size+2=w.heap.size+1:=by omega
    clear hNb hbody hsig hk hbb H8
    refine on_ (i:=9) (z:=fun KK hKK=>?_)
    go_simp
    refine hKK.out _ _ (HSS.out _ (HKb.out.set (g:=w.heap.size+1) (by have:=HB3.out.1;omega) (by have:=HB3.out.2.1;omega) (by have:=HB3.out.2.2;omega) _ _ _)) (fun hHeld=>?_)
    clear hKK KK
    try simp only[Act.put,qa_,qb_,qc_]
    refine on_ (i:=10) (z:=fun KK hKK=>?_)
    go_simp
    refine hKK.out _ _ (HSS.out _ ((HKb.out.set (g:=w.heap.size+1) (by have:=HB3.out.1;omega) (by have:=HB3.out.2.1;omega) (by have:=HB3.out.2.2;omega) _ _ _).set (g:=w.heap.size+2) (by have:=HB3.out.1;omega) (by have:=HB3.out.2.1;omega) (by have:=HB3.out.2.2;omega) _ _ _)) (fun hHeld=>?_)
    clear hKK KK
    try simp only[Act.put,qa_,qb_,qc_]
    clear f0 f1 f2 f3 f4 f5 s0 s1 s2 s3 s4 s5
    refine tk_ (i:=11) (hS:=hHeld) (z:=?_)
    refine wpAnyH_done (by kernel_rfl) ?_ _
    refine NoPanic.normal ?_
    clear hHeld
    go_wp2_with fail
    obtain⟨⟨r0,r1,r2⟩,⟨r3,r4,r5⟩,hP,hQ⟩:=HF.out
    refine bodyPost_ret (v:=.tuple #[.agg #[.int .u8 48,.slice none 0 0,.slice (some ⟨w8.heap.size,0,none⟩) 4 4],.agg #[.int .u8 4,.slice (some ⟨b4,0,none⟩) 8 8,.slice none 0 0],.int .i64 0]) ?_ rfl (by rw[←HRR.out];exact⟨hP,_,_,_,_,_,_,_,_,_,_,_,_,_,_,rfl,hQ _ _ _ _ HD.out.1,hQ _ _ _ _ HD.out.2⟩)
    unfold set3 at r0 r1 r2 r3 r4 r5
    simp[results,Tryz.results15,go_sem,r0,r1,r2,r3,r4,r5]
end Go.Proofs.YtconbejjagcnkaaGreatDoor.nmc
