/- The nodes of a certificate: the program's nodesOf. -/
import Derived.Test.YtkjkhoglkpepiaaGreatDoorQc
set_option maxRecDepth 100000
set_option maxHeartbeats 1600000
set_option linter.unusedVariables false
set_option linter.unusedSimpArgs false
namespace Go.Proofs.YtkjkhoglkpepiaaGreatDoor.nmc
open Go.RowKit tlvc tlvd ndc txc txm intc intm vtc
structure NB (w:World) (C:Array Value) (f:Nat→Nd) (W:World):Prop where
 bel:Below w.heap.size w W
 siz:w.heap.size+9≤W.heap.size
 arg:W.heap[w.heap.size]? =some (.cells C 32)
 box: ∀j,1≤j→j≤8→∃t A l k K m n,W.heap[w.heap.size+j]? =some (.cells #[.int .u8 t,.slice A l k,.slice K m n] 43)∧NdC (fun g=>w.heap.size+9≤g) W (f j) (.int .u8 t) (.slice A l k) (.slice K m n)
def upd (f:Nat→Nd)(j:Nat)(n:Nd):Nat→Nd:=fun i=>if i=j then n else f i
theorem NB.call {w:World}{C:Array Value}{f:Nat→Nd}{W W':World}(h:NB w C f W)(hb:Below W.heap.size W W'):NB w C f W':=by
 have hz:=h.siz
 refine⟨below_then h.bel hb (lr_ _),Nat.le_trans hz hb.size,(hb.block _ (by omega)).trans h.arg,fun j h1 h2=>?_⟩
 obtain⟨t,A,l,k,K,m,n,e,hn⟩:=h.box j h1 h2
 exact⟨t,A,l,k,K,m,n,(hb.block _ (by omega)).trans e,NdC.below hb _ _ _ _ hn⟩
theorem NB.put {w:World}{C:Array Value}{f:Nat→Nd}{W:World}(h:NB w C f W){j:Nat}(h1:1≤j)(h2:j≤8){n:Nd}{t:Int}{A:Option Addr}{l k:Nat}{K:Option Addr}{m u:Nat}(hn:NdC (fun g=>w.heap.size+9≤g) W n (.int .u8 t) (.slice A l k) (.slice K m u)):
  NB w C (upd f j n) (set3 W (w.heap.size+j) (.int .u8 t) (.slice A l k) (.slice K m u)):=by
 have hz:=h.siz
 obtain⟨_,_,_,_,_,_,_,e,_⟩:=h.box j h1 h2
 have keep: ∀n c0 c1 c2,NdC (fun g=>w.heap.size+9≤g) W n c0 c1 c2→NdC (fun g=>w.heap.size+9≤g) (set3 W (w.heap.size+j) (.int .u8 t) (.slice A l k) (.slice K m u)) n c0 c1 c2:=fun n c0 c1 c2 hn=>
  NdC.stays ⟨by rw[set3_size];exact lr_ _,fun p hp _=>cell_same (set3_other _ _ _ _ _ (by have hp:w.heap.size+9≤p.block:=hp;omega))⟩ _ _ _ _ hn
 refine⟨set3_below (by omega) h.bel _ _ _,by rw[set3_size];exact hz,(set3_other _ _ _ _ _ (by omega)).trans h.arg,fun i g1 g2=>?_⟩
 by_cases hi:i=j
 ·subst hi
  exact⟨t,A,l,k,K,m,u,set3_box e _ _ _,by unfold upd;rw[if_pos rfl];exact keep _ _ _ _ hn⟩
 ·obtain⟨t',A',l',k',K',m',u',e',hn'⟩:=h.box i g1 g2
  exact⟨t',A',l',k',K',m',u',(set3_other _ _ _ _ _ (by omega)).trans e',by unfold upd;rw[if_neg hi];exact keep _ _ _ _ hn'⟩
theorem nb_re {w:World}{C:Array Value}{f:Nat→Nd}{W W':World}(e:W=W')(h:NB w C f W):NB w C f W':=e▸h
theorem nw3 (W:World)(b:Nat)(y0 y1 y2:Value): ∃z,(((W.setCell ⟨b,0,none⟩ y0).setCell ⟨b,1,none⟩ y1).setCell ⟨b,2,none⟩ y2)=z∧set3 W b y0 y1 y2=z:=⟨_,rfl,rfl⟩
theorem box16 {W:World}{g:Nat}{v0 v1 v2 v3 v4 v5 x0 x1 x2 x3 x4 x5 x6 x7 x8 v7:Value}{T:TypeId}(h:W.heap[g]? =some (.cells #[v0,v1,v2,v3,v4,v5,x0,x1,x2,x3,x4,x5,x6,x7,x8,v7] T)):(W.cell? ⟨g,0,none⟩=some v0∧W.cell? ⟨g,1,none⟩=some v1∧W.cell? ⟨g,2,none⟩=some v2∧W.cell? ⟨g,3,none⟩=some v3∧W.cell? ⟨g,4,none⟩=some v4∧W.cell? ⟨g,5,none⟩=some v5)∧
  (W.cell? ⟨g,6,none⟩=some x0∧W.cell? ⟨g,7,none⟩=some x1∧W.cell? ⟨g,8,none⟩=some x2∧W.cell? ⟨g,9,none⟩=some x3∧W.cell? ⟨g,10,none⟩=some x4∧W.cell? ⟨g,11,none⟩=some x5∧W.cell? ⟨g,12,none⟩=some x6∧W.cell? ⟨g,13,none⟩=some x7∧W.cell? ⟨g,14,none⟩=some x8)∧W.cell? ⟨g,15,none⟩=some v7:=
 ⟨⟨(ch_ h _).trans rfl,(ch_ h _).trans rfl,(ch_ h _).trans rfl,(ch_ h _).trans rfl,(ch_ h _).trans rfl,(ch_ h _).trans rfl⟩,⟨(ch_ h _).trans rfl,(ch_ h _).trans rfl,(ch_ h _).trans rfl,(ch_ h _).trans rfl,(ch_ h _).trans rfl,(ch_ h _).trans rfl,(ch_ h _).trans rfl,(ch_ h _).trans rfl,(ch_ h _).trans rfl⟩,(ch_ h _).trans rfl⟩
theorem ceC_shape {S:Nat→Prop}{w:World}{c:Ce}{c0 c1 c2 c3 c4 c5 x0 x1 x2 x3 x4 x5 x6 x7 x8 c6:Value}(h:CeC S w c c0 c1 c2 c3 c4 c5 x0 x1 x2 x3 x4 x5 x6 x7 x8 c6): ∃a0 A1 l1 i1 a2 a3 A4 l4 i4 a5 q0 q1 q2 q3 B4 m4 j4 B5 m5 j5 B6 m6 j6 B7 m7 j7 B8 m8 j8 a7,c0=.int .i64 a0∧c1=.slice A1 l1 i1∧c2=.int .i64 a2∧c3=.int .i64 a3∧c4=.slice A4 l4 i4∧c5=.int .i64 a5∧x0=.bool q0∧x1=.bool q1∧x2=.int .i64 q2∧x3=.int .u16 q3∧x4=.slice B4 m4 j4∧x5=.slice B5 m5 j5∧x6=.slice B6 m6 j6∧x7=.slice B7 m7 j7∧x8=.slice B8 m8 j8∧c6=.int .i64 a7:=by
 obtain⟨A1,i1,e1,_⟩:=id h.iss
 obtain⟨A4,i4,e4,_⟩:=id h.sub
 obtain⟨q0,q1,q2,q3,B4,q4,j4,B5,q5,j5,B6,q6,j6,B7,q7,j7,B8,q8,j8,f0,f1,f2,f3,f4,f5,f6,f7,f8⟩:=exC_shape h.ex
 exact⟨_,_,_,_,_,_,_,_,_,_,_,_,_,_,_,_,_,_,_,_,_,_,_,_,_,_,_,_,_,_,h.ser.1,e1,h.frm.1,h.til.1,e4,h.key.1,f0,f1,f2,f3,f4,f5,f6,f7,f8,h.sig.1⟩
def NodesP (w:World)(r:Option (Nd × Nd))(e:Ending)(w':World):Prop:=
 Below w.heap.size w w'∧match r with
 |none=>e=.returned (.tuple #[.agg #[.int .u8 0,.slice none 0 0,.slice none 0 0],.agg #[.int .u8 0,.slice none 0 0,.slice none 0 0],.int .i64 111])
 |some x=>∃t A l k K p u t' A' l' k' K' p' u',e=.returned (.tuple #[.agg #[.int .u8 t,.slice A l k,.slice K p u],.agg #[.int .u8 t',.slice A' l' k',.slice K' p' u'],.int .i64 0])∧NdC (fun g=>w.heap.size≤g) w' x.1 (.int .u8 t) (.slice A l k) (.slice K p u)∧NdC (fun g=>w.heap.size≤g) w' x.2 (.int .u8 t') (.slice A' l' k') (.slice K' p' u')
def nodesC (c:Ce):Option (Nd × Nd):=if rightC c=true then some (bodyC c,hNd c.sig) else none
def NStop (w:World)(C:Array Value)(r:Option (Nd × Nd))(a:Act)(W:World):Prop:=r=none∧a.defers=[]∧a.tmps.size=104∧a.tmps.getD 2 undef=.pointer (some ⟨w.heap.size+1,0,none⟩)∧a.tmps.getD 3 undef=.pointer (some ⟨w.heap.size+2,0,none⟩)∧∃f,NB w C f W
theorem ls4 {α:Type}{E:El α}{S:Nat→Prop}{w:World}{xs:List α}{A:Option Addr}{l k:Nat}(h:LsC E S w xs (.slice A l k)):xs.length=l∧l≤k∧k≤maxLen∧Lst E S w A xs:=by
 obtain⟨A',k',e,h1,h2,h3⟩:=h
 simp only[Value.slice.injEq] at e
 obtain⟨rfl,rfl,rfl⟩:=e
 exact⟨rfl,h1,h2,h3⟩
def NTail (w W7:World)(c:Ce)(wx:World):Prop:=KP W7 (w.heap.size+1) wx∧∃g,W7.heap.size≤g∧wx.heap[w.heap.size+1]? =some (.cells #[.int .u8 48,.slice none 0 0,.slice (some ⟨g,0,none⟩) 5 5] 43)∧GRow ndE 43 (w.heap.size+9) (fun g=>w.heap.size+9≤g) wx (.slice (some ⟨g,0,none⟩) 5 5) [numN c.ser,nameN c.iss,.mk 48 [] [timeNd c.frm,timeNd c.til],nameN c.sub,hNd c.key]
theorem ntail_of {w W7 wc w8 wn wb:World}{c:Ce}{a0 t1 t2 t3 t4 t5 t6 t7 t8:Int}{A2 D1 D2 D3 D4 D5 D6 D7 D8 K1 K2 K3 K4 K5 K6 K7 K8:Option Addr}{c2 gr d1 d2 d3 d4 d5 d6 d7 d8 g1 g2 g3 g4 g5 g6 g7 g8 k1 k2 k3 k4 k5 k6 k7 k8 u1 u2 u3 u4 u5 u6 u7 u8:Nat}(ha:a0=c.ser)(hz:w.heap.size+9≤W7.heap.size)(hx1:W7.heap[w.heap.size+1]? =some (.cells #[.int .u8 t1,.slice D1 d1 g1,.slice K1 k1 u1] 43))
 (hN:NdC (fun g=>w.heap.size+9≤g) W7 (hNd c.sig) (.int .u8 t2) (.slice D2 d2 g2) (.slice K2 k2 u2)∧NdC (fun g=>w.heap.size+9≤g) W7 (nameN c.iss) (.int .u8 t3) (.slice D3 d3 g3) (.slice K3 k3 u3)∧NdC (fun g=>w.heap.size+9≤g) W7 (timeNd c.frm) (.int .u8 t4) (.slice D4 d4 g4) (.slice K4 k4 u4)∧NdC (fun g=>w.heap.size+9≤g) W7 (timeNd c.til) (.int .u8 t5) (.slice D5 d5 g5) (.slice K5 k5 u5)∧NdC (fun g=>w.heap.size+9≤g) W7 (nameN c.sub) (.int .u8 t6) (.slice D6 d6 g6) (.slice K6 k6 u6)∧NdC (fun g=>w.heap.size+9≤g) W7 (hNd c.key) (.int .u8 t7) (.slice D7 d7 g7) (.slice K7 k7 u7)∧NdC (fun g=>w.heap.size+9≤g) W7 (nodeX c.ex) (.int .u8 t8) (.slice D8 d8 g8) (.slice K8 k8 u8)) (hC:Below W7.heap.size W7 wc)
 (hY:Bys wc A2 (putI a0).length (putI a0)∧(putI a0).length≤c2∧c2≤maxLen∧(∀b off,A2=some ⟨b,off,none⟩→W7.heap.size≤b)∧W7.heap.size≤gr∧wc.heap[gr]? =some (.cells #[.int .u8 t4,.slice D4 d4 g4,.slice K4 k4 u4,.int .u8 t5,.slice D5 d5 g5,.slice K5 k5 u5] 43))
 (h8:Below wc.heap.size wc w8) (hn:Below w8.heap.size w8 wn) (hq:wn.heap[w8.heap.size]? =some (.cells #[.int .u8 2,.slice A2 (putI a0).length c2,.slice none 0 0,.int .u8 t3,.slice D3 d3 g3,.slice K3 k3 u3,.int .u8 48,.slice none 0 0,.slice (some ⟨gr,0,none⟩) 2 2,.int .u8 t6,.slice D6 d6 g6,.slice K6 k6 u6,.int .u8 t7,.slice D7 d7 g7,.slice K7 k7 u7] 43)) (hb:Below wn.heap.size wn wb):
 NTail w W7 c (((wb.setCell ⟨w.heap.size+1,0,none⟩ (.int .u8 48)).setCell ⟨w.heap.size+1,1,none⟩ (.slice none 0 0)).setCell ⟨w.heap.size+1,2,none⟩ (.slice (some ⟨w8.heap.size,0,none⟩) 5 5)):=by
 obtain⟨y1,y2,y3,y4,hgr,hrow⟩:=hY
 obtain⟨n2,n3,n4,n5,n6,n7,_⟩:=hN
 have hbc:=below_then (below_then h8 hn (lr_ _)) hb (lr_ _)
 have z1:=hC.size
 have z2:=h8.size
 have z3:=hn.size
 have z4:=hb.size
 have hq8:=(Array.getElem?_eq_some_iff.1 hq).1
 have hgl:=(Array.getElem?_eq_some_iff.1 hrow).1
 have hkp:=(((KP.of (b:=w.heap.size+1) (by omega) (below_then hC hbc (lr_ _))).set 0 (.int .u8 48)).set 1 (.slice none 0 0)).set 2 (.slice (some ⟨w8.heap.size,0,none⟩) 5 5)
 have hkc:=(((KP.of (b:=w.heap.size+1) (by omega) hbc).set 0 (.int .u8 48)).set 1 (.slice none 0 0)).set 2 (.slice (some ⟨w8.heap.size,0,none⟩) 5 5)
 refine⟨hkp,w8.heap.size,by omega,set3_box (((below_then hC hbc (lr_ _)).block _ (by omega)).trans hx1) _ _ _,?_⟩
 have row:=(set3_other wb (w.heap.size+1) (.int .u8 48) (.slice none 0 0) (.slice (some ⟨w8.heap.size,0,none⟩) 5 5) (g:=w8.heap.size) (by omega)).trans ((hb.block _ hq8).trans hq)
 have sz:wb.heap.size=(set3 wb (w.heap.size+1) (.int .u8 48) (.slice none 0 0) (.slice (some ⟨w8.heap.size,0,none⟩) 5 5)).heap.size:=(set3_size _ _ _ _ _).symm
 have fr: ∀g,w.heap.size+9≤g→g<wc.heap.size→g≠w.heap.size+1∧Fr (fun g=>w.heap.size+9≤g) (set3 wb (w.heap.size+1) (.int .u8 48) (.slice none 0 0) (.slice (some ⟨w8.heap.size,0,none⟩) 5 5)).heap.size (some w8.heap.size) g:=fun g hg hl=>⟨by omega,hg,by omega,fun e=>by have:=Option.some.inj e;omega⟩
 have p2:NdC (fun g=>w.heap.size+9≤g) wc (numN c.ser) (.int .u8 2) (.slice A2 (putI a0).length c2) (.slice none 0 0):=by
  rw[←ha]
  exact ndC_leaf (by omega) y2 y3 y1 (fun hl g off sp e=>by
   obtain⟨g',off',e',_⟩:=y1.2.2 hl
   rw[e] at e'
   simp only[Option.some.injEq,Addr.mk.injEq] at e'
   obtain⟨rfl,rfl,rfl⟩:=e'
   exact Nat.le_trans hz (y4 _ _ e))
 have p48:NdC (fun g=>w.heap.size+9≤g) wc (.mk 48 [] [timeNd c.frm,timeNd c.til]) (.int .u8 48) (.slice none 0 0) (.slice (some ⟨gr,0,none⟩) 2 2):=ndC_of (by omega) (lr_ _) (by show 2≤maxLen;decide) (two_nodes hrow (by omega) (NdC.below hC _ _ _ _ n4) (NdC.below hC _ _ _ _ n5))
 exact grow_new row rfl (by omega) rfl rfl (by decide) (all_nd (hkc.nd p2 fr) (all_nd (hkc.nd (NdC.below hC _ _ _ _ n3) fr) (all_nd (hkc.nd p48 fr) (all_nd (hkc.nd (NdC.below hC _ _ _ _ n6) fr) (all_nd (hkc.nd (NdC.below hC _ _ _ _ n7) fr) all_nil)))))
theorem nfin {w W:World}{c:Ce}{A D2 K2:Option Addr}{l k d2 g2 k2 u2:Nat}{t2:Int}(hb:Below w.heap.size w W)(h1:W.heap[w.heap.size+1]? =some (.cells #[.int .u8 48,.slice none 0 0,.slice A l k] 43))(h2:W.heap[w.heap.size+2]? =some (.cells #[.int .u8 t2,.slice D2 d2 g2,.slice K2 k2 u2] 43))
 (n1:NdC (fun g=>w.heap.size+9≤g) W (bodyC c) (.int .u8 48) (.slice none 0 0) (.slice A l k)) (n2:NdC (fun g=>w.heap.size+9≤g) W (hNd c.sig) (.int .u8 t2) (.slice D2 d2 g2) (.slice K2 k2 u2)): ∀W',set3 (set3 W (w.heap.size+1) (.int .u8 48) (.slice none 0 0) (.slice A l k)) (w.heap.size+2) (.int .u8 t2) (.slice D2 d2 g2) (.slice K2 k2 u2)=W'→
  (W'.cell? ⟨w.heap.size+1,0,none⟩=some (.int .u8 48)∧W'.cell? ⟨w.heap.size+1,1,none⟩=some (.slice none 0 0)∧W'.cell? ⟨w.heap.size+1,2,none⟩=some (.slice A l k))∧(W'.cell? ⟨w.heap.size+2,0,none⟩=some (.int .u8 t2)∧W'.cell? ⟨w.heap.size+2,1,none⟩=some (.slice D2 d2 g2)∧W'.cell? ⟨w.heap.size+2,2,none⟩=some (.slice K2 k2 u2))∧
  NodesP w (some (bodyC c,hNd c.sig)) (.returned (.tuple #[.agg #[.int .u8 48,.slice none 0 0,.slice A l k],.agg #[.int .u8 t2,.slice D2 d2 g2,.slice K2 k2 u2],.int .i64 0])) W':=fun W' hW=>by
 have z1:=(set3_other (set3 W (w.heap.size+1) (.int .u8 48) (.slice none 0 0) (.slice A l k)) (w.heap.size+2) (.int .u8 t2) (.slice D2 d2 g2) (.slice K2 k2 u2) (g:=w.heap.size+1) (by omega)).trans (set3_box h1 _ _ _)
 have z2:=set3_box ((set3_other W (w.heap.size+1) (.int .u8 48) (.slice none 0 0) (.slice A l k) (g:=w.heap.size+2) (by omega)).trans h2) (.int .u8 t2) (.slice D2 d2 g2) (.slice K2 k2 u2)
 have z3:=set3_below (b:=w.heap.size+2) (by omega) (set3_below (b:=w.heap.size+1) (by omega) hb (.int .u8 48) (.slice none 0 0) (.slice A l k)) (.int .u8 t2) (.slice D2 d2 g2) (.slice K2 k2 u2)
 have st: ∀n a0 a1 a2,NdC (fun g=>w.heap.size+9≤g) W n a0 a1 a2→NdC (fun g=>w.heap.size≤g) (set3 (set3 W (w.heap.size+1) (.int .u8 48) (.slice none 0 0) (.slice A l k)) (w.heap.size+2) (.int .u8 t2) (.slice D2 d2 g2) (.slice K2 k2 u2)) n a0 a1 a2:=fun n a0 a1 a2 h=>by
  refine NdC.mono (B:=fun g=>w.heap.size+9≤g) (fun g (hg:w.heap.size+9≤g)=>by omega) _ _ _ _ (NdC.stays ⟨by rw[set3_size,set3_size];exact lr_ _,fun p hp _=>cell_same ?_⟩ _ _ _ _ h)
  have hp:w.heap.size+9≤p.block:=hp
  rw[set3_other _ _ _ _ _ (by omega),set3_other _ _ _ _ _ (by omega)]
 have m1:=st _ _ _ _ n1
 have m2:=st _ _ _ _ n2
 rw[hW] at z1 z2 z3 m1 m2
 exact⟨(st3 z1).2,(st3 z2).2,z3,_,_,_,_,_,_,_,_,_,_,_,_,_,_,rfl,m1,m2⟩
theorem nodesC_no {c:Ce}(h:rightC c=false):nodesC c=none:=by unfold nodesC;rw[h];rfl
theorem nb_new {w W9:World}{C:Array Value}{v:Obj}(hv:v=.cells #[.int .u8 0,.slice none 0 0,.slice none 0 0] 43)(h:(((((((((w.alloc (.cells C 32)).alloc v).alloc v).alloc v).alloc v).alloc v).alloc v).alloc v).alloc v)=W9):NB w C (fun _=>zeroN) W9:=by
 have hz:W9.heap.size=w.heap.size+9:=by rw[←h];simp
 have at0:W9.heap[w.heap.size]? =some (.cells C 32):=by rw[←h];repeat (first | (refine heap_is ?_;(try simp only[size_new])<;>omega) |rw[heap_old_ _ _ (by(try simp only[size_new])<;>omega)])
 refine⟨by rw[←h];exact(below_new _ _).alloc (by simp) _ |>.alloc (by simp;omega) _ |>.alloc (by simp;omega) _ |>.alloc (by simp;omega) _ |>.alloc (by simp;omega) _ |>.alloc (by simp;omega) _ |>.alloc (by simp;omega) _ |>.alloc (by simp;omega) _,by omega,at0,fun j h1 h2=>⟨0,none,0,0,none,0,0,?_,ndC_zero⟩⟩
 rw[←hv,←h]
 rcases(by omega:j=1∨j=2∨j=3∨j=4∨j=5∨j=6∨j=7∨j=8) with rfl |rfl |rfl |rfl |rfl |rfl |rfl |rfl
 all_goals (repeat (first | (refine heap_is ?_;(try simp only[size_new])<;>omega) |rw[heap_old_ _ _ (by(try simp only[size_new])<;>omega)]))
theorem nodesOf_any (B:Nat→Prop)(c:Ce)(c0 c1 c2 c3 c4 c5 x0 x1 x2 x3 x4 x5 x6 x7 x8 c6:Value)(w:World)(hx:CeC B w c c0 c1 c2 c3 c4 c5 x0 x1 x2 x3 x4 x5 x6 x7 x8 c6)(hT:Tabs w):
 Calls Tryz.prog 10 #[.agg #[c0,c1,c2,c3,c4,c5,x0,x1,x2,x3,x4,x5,x6,x7,x8,c6]] w (NodesP w (nodesC c)):=by
 have mixed:Tryz.prog.follows Departure.mixedOrders=true:=by kernel_rfl
 obtain⟨a0,A1,l1,i1,a2,a3,A4,l4,i4,a5,q0,q1,q2,q3,B4,m4,j4,B5,m5,j5,B6,m6,j6,B7,m7,j7,B8,m8,j8,a7,rfl,rfl,rfl,rfl,rfl,rfl,rfl,rfl,rfl,rfl,rfl,rfl,rfl,rfl,rfl,rfl⟩:=ceC_shape hx
 obtain⟨W9,hW9⟩:=nm_ (((((((((w.alloc (.cells #[.int .i64 a0,.slice A1 l1 i1,.int .i64 a2,.int .i64 a3,.slice A4 l4 i4,.int .i64 a5,.bool q0,.bool q1,.int .i64 q2,.int .u16 q3,.slice B4 m4 j4,.slice B5 m5 j5,.slice B6 m6 j6,.slice B7 m7 j7,.slice B8 m8 j8,.int .i64 a7] 32)).alloc (.cells #[.int .u8 0,.slice none 0 0,.slice none 0 0] 43)).alloc (.cells #[.int .u8 0,.slice none 0 0,.slice none 0 0] 43)).alloc (.cells #[.int .u8 0,.slice none 0 0,.slice none 0 0] 43)).alloc (.cells #[.int .u8 0,.slice none 0 0,.slice none 0 0] 43)).alloc (.cells #[.int .u8 0,.slice none 0 0,.slice none 0 0] 43)).alloc (.cells #[.int .u8 0,.slice none 0 0,.slice none 0 0] 43)).alloc (.cells #[.int .u8 0,.slice none 0 0,.slice none 0 0] 43)).alloc (.cells #[.int .u8 0,.slice none 0 0,.slice none 0 0] 43))
 have hNB:NB w #[.int .i64 a0,.slice A1 l1 i1,.int .i64 a2,.int .i64 a3,.slice A4 l4 i4,.int .i64 a5,.bool q0,.bool q1,.int .i64 q2,.int .u16 q3,.slice B4 m4 j4,.slice B5 m5 j5,.slice B6 m6 j6,.slice B7 m7 j7,.slice B8 m8 j8,.int .i64 a7] (fun _=>zeroN) W9:=nb_new rfl hW9
 have HS:=hd_ (ai_ (show a0=c.ser by have:=hx.ser.1;simpa using this) (ai_ (show a2=c.frm by have:=hx.frm.1;simpa using this) (ai_ (show a3=c.til by have:=hx.til.1;simpa using this) (ai_ (show a5=c.key by have:=hx.key.1;simpa using this) (show a7=c.sig by have:=hx.sig.1;simpa using this)))))
 have e0:=(box16 hNB.arg).1.1
 obtain⟨R,hR⟩:=nm_ (nodesC c)
 rw[hR]
 have HX:=hd_ hx
 have HT:=hd_ hT
 have HB:=hd_ hNB
 have HR:=hd_ hR
 clear hNB hR hx hT
 go_enter Tryz.func10,Tryz.ntmps10
 go_wp2
 refine wp_scope_jumps 0 (NStop w #[.int .i64 a0,.slice A1 l1 i1,.int .i64 a2,.int .i64 a3,.slice A4 l4 i4,.int .i64 a5,.bool q0,.bool q1,.int .i64 q2,.int .u16 q3,.slice B4 m4 j4,.slice B5 m5 j5,.slice B6 m6 j6,.slice B7 m7 j7,.slice B8 m8 j8,.int .i64 a7] R) (fun _ _=>0) rfl ?_ ?_
 ·by_cases hlo:a0<0
  ·have hk:serOK c.ser=false:=by rw[←HS.out.1];unfold serOK;rw[decide_eq_false (by omega)];rfl
   have HK:=hd_ hk
   clear hk
   go_wp2
   go_step3
   exact⟨rfl,by rw[←HR.out];exact nodesC_no (by unfold rightC;rw[HK.out];rfl),rfl,rfl,rfl,rfl,_,HB.out⟩
  by_cases hhi:4611686018427387904<a0
  ·have hk:serOK c.ser=false:=by rw[←HS.out.1];unfold serOK;rw[decide_eq_false (by omega: ¬a0≤4611686018427387904),Bool.and_false]
   have HK:=hd_ hk
   clear hk
   go_wp2
   go_step3
   exact⟨rfl,by rw[←HR.out];exact nodesC_no (by unfold rightC;rw[HK.out];rfl),rfl,rfl,rfl,rfl,_,HB.out⟩
  have hk:serOK c.ser=true:=by rw[←HS.out.1];unfold serOK;rw[decide_eq_true (by omega),decide_eq_true (by omega)];rfl
  have HK0:=hd_ hk
  clear hk
  have e1:=(box16 HB.out.arg).1.2.1
  have hL:=ls4 (HX.out.iss.below HB.out.bel)
  have HC:=hd_ ((put_any _ A1 l1 i1 c.iss W9 hL.1 hL.2.2.2 hL.2.1 hL.2.2.1 (HT.out.below HB.out.bel)).mono fun _ _=>nst_put)
  clear hL
  go_wp2_with fail
  clear e0 hlo hhi e1
  refine HC.out.mono ?_
  rintro e w1 ⟨hb,n1,t1,D1,d1,g1,K1,k1,u1,er,rfl,hn,hr⟩
  have hB:=HB.out.call hb
  obtain⟨_,_,_,_,_,_,_,hx1,_⟩:=hB.box 3 (by decide) (by decide)
  obtain⟨⟨f0,f1,f2⟩,s0,s1,s2⟩:=st3 hx1
  have HN:=hd_ (hB.put (j:=3) (by decide) (by decide) (NdC.mono (fun g (hg:W9.heap.size≤g)=>by have:=HB.out.siz;omega) _ _ _ _ hn))
  have HQ:=hd_ hr
  clear hb hB hx1 hn hr HC HB
  go_upto_region 4 with fail
  obtain⟨W1,hW,hS⟩:=nw3 w1 (w.heap.size+3) (.int .u8 t1) (.slice D1 d1 g1) (.slice K1 k1 u1)
  rw[hW]
  have HB:=hd_ (nb_re hS HN.out)
  clear HN hW hS f0 f1 f2 s0 s1 s2
  by_cases hk: ¬rightN c.iss=true
  ·have hr:=HQ.out
   rw[nameF_of,if_neg hk] at hr
   have hr:er≠0:=hr
   have HK:=hd_ (Bool.eq_false_iff.2 hk)
   clear hk HQ
   go_wp2
   go_step3
   exact⟨rfl,by rw[←HR.out];exact nodesC_no (by unfold rightC;rw[HK0.out,HK.out];rfl),rfl,rfl,rfl,rfl,_,HB.out⟩
  have hk:=Classical.not_not.1 hk
  have hr:=HQ.out
  rw[nameF_of,if_pos hk] at hr
  obtain⟨rfl,rfl⟩:=hr
  have HK1:=hd_ hk
  clear hk HQ
  have e2:=(box16 HB.out.arg).1.2.2.1
  have HC:=hd_ (timeNode_any a2 W1 (by rw[HS.out.2.1];exact HX.out.frm.2))
  go_wp2_with fail
  clear e2
  refine HC.out.mono ?_
  rintro e w1 ⟨hb,n1,t1,D1,d1,g1,K1,k1,u1,er,rfl,hn,hr⟩
  have hB:=HB.out.call hb
  obtain⟨_,_,_,_,_,_,_,hx1,_⟩:=hB.box 4 (by decide) (by decide)
  obtain⟨⟨f0,f1,f2⟩,s0,s1,s2⟩:=st3 hx1
  have HN:=hd_ (hB.put (j:=4) (by decide) (by decide) (NdC.mono (fun g (hg:W1.heap.size≤g)=>by have:=HB.out.siz;omega) _ _ _ _ hn))
  have HQ:=hd_ hr
  clear hb hB hx1 hn hr HC HB
  go_upto_region 6 with fail
  obtain⟨W2,hW,hS⟩:=nw3 w1 (w.heap.size+4) (.int .u8 t1) (.slice D1 d1 g1) (.slice K1 k1 u1)
  rw[hW]
  have HB:=hd_ (nb_re hS HN.out)
  clear HN hW hS f0 f1 f2 s0 s1 s2
  by_cases hk: ¬inRB c.frm=true
  ·have hr:=HQ.out
   rw[HS.out.2.1,if_neg hk] at hr
   have hr:er≠0:=hr
   have HK:=hd_ (Bool.eq_false_iff.2 hk)
   clear hk HQ
   go_wp2
   go_step3
   exact⟨rfl,by rw[←HR.out];exact nodesC_no (by unfold rightC;rw[HK0.out,HK1.out,HK.out];rfl),rfl,rfl,rfl,rfl,_,HB.out⟩
  have hk:=Classical.not_not.1 hk
  have hr:=HQ.out
  rw[HS.out.2.1,if_pos hk] at hr
  obtain⟨rfl,rfl⟩:=hr
  have HK2:=hd_ hk
  clear hk HQ
  have e3:=(box16 HB.out.arg).1.2.2.2.1
  have HC:=hd_ (timeNode_any a3 W2 (by rw[HS.out.2.2.1];exact HX.out.til.2))
  go_wp2_with fail
  clear e3
  refine HC.out.mono ?_
  rintro e w1 ⟨hb,n1,t1,D1,d1,g1,K1,k1,u1,er,rfl,hn,hr⟩
  have hB:=HB.out.call hb
  obtain⟨_,_,_,_,_,_,_,hx1,_⟩:=hB.box 5 (by decide) (by decide)
  obtain⟨⟨f0,f1,f2⟩,s0,s1,s2⟩:=st3 hx1
  have HN:=hd_ (hB.put (j:=5) (by decide) (by decide) (NdC.mono (fun g (hg:W2.heap.size≤g)=>by have:=HB.out.siz;omega) _ _ _ _ hn))
  have HQ:=hd_ hr
  clear hb hB hx1 hn hr HC HB
  go_upto_region 8 with fail
  obtain⟨W3,hW,hS⟩:=nw3 w1 (w.heap.size+5) (.int .u8 t1) (.slice D1 d1 g1) (.slice K1 k1 u1)
  rw[hW]
  have HB:=hd_ (nb_re hS HN.out)
  clear HN hW hS f0 f1 f2 s0 s1 s2
  by_cases hk: ¬inRB c.til=true
  ·have hr:=HQ.out
   rw[HS.out.2.2.1,if_neg hk] at hr
   have hr:er≠0:=hr
   have HK:=hd_ (Bool.eq_false_iff.2 hk)
   clear hk HQ
   go_wp2
   go_step3
   exact⟨rfl,by rw[←HR.out];exact nodesC_no (by unfold rightC;rw[HK0.out,HK1.out,HK2.out,HK.out];rfl),rfl,rfl,rfl,rfl,_,HB.out⟩
  have hk:=Classical.not_not.1 hk
  have hr:=HQ.out
  rw[HS.out.2.2.1,if_pos hk] at hr
  obtain⟨rfl,rfl⟩:=hr
  have HK3:=hd_ hk
  clear hk HQ
  have e4:=(box16 HB.out.arg).1.2.2.2.2.1
  have hL:=ls4 (HX.out.sub.below HB.out.bel)
  have HC:=hd_ ((put_any _ A4 l4 i4 c.sub W3 hL.1 hL.2.2.2 hL.2.1 hL.2.2.1 (HT.out.below HB.out.bel)).mono fun _ _=>nst_put)
  clear hL
  go_wp2_with fail
  clear e4
  refine HC.out.mono ?_
  rintro e w1 ⟨hb,n1,t1,D1,d1,g1,K1,k1,u1,er,rfl,hn,hr⟩
  have hB:=HB.out.call hb
  obtain⟨_,_,_,_,_,_,_,hx1,_⟩:=hB.box 6 (by decide) (by decide)
  obtain⟨⟨f0,f1,f2⟩,s0,s1,s2⟩:=st3 hx1
  have HN:=hd_ (hB.put (j:=6) (by decide) (by decide) (NdC.mono (fun g (hg:W3.heap.size≤g)=>by have:=HB.out.siz;omega) _ _ _ _ hn))
  have HQ:=hd_ hr
  clear hb hB hx1 hn hr HC HB
  go_upto_region 10 with fail
  obtain⟨W4,hW,hS⟩:=nw3 w1 (w.heap.size+6) (.int .u8 t1) (.slice D1 d1 g1) (.slice K1 k1 u1)
  rw[hW]
  have HB:=hd_ (nb_re hS HN.out)
  clear HN hW hS f0 f1 f2 s0 s1 s2
  by_cases hk: ¬rightN c.sub=true
  ·have hr:=HQ.out
   rw[nameF_of,if_neg hk] at hr
   have hr:er≠0:=hr
   have HK:=hd_ (Bool.eq_false_iff.2 hk)
   clear hk HQ
   go_wp2
   go_step3
   exact⟨rfl,by rw[←HR.out];exact nodesC_no (by unfold rightC;rw[HK0.out,HK1.out,HK2.out,HK3.out,HK.out];rfl),rfl,rfl,rfl,rfl,_,HB.out⟩
  have hk:=Classical.not_not.1 hk
  have hr:=HQ.out
  rw[nameF_of,if_pos hk] at hr
  obtain⟨rfl,rfl⟩:=hr
  have HK4:=hd_ hk
  clear hk HQ
  have e5:=(box16 HB.out.arg).1.2.2.2.2.2
  have HC:=hd_ (handleNode_any a5 W4 (by rw[HS.out.2.2.2.1];exact HX.out.key.2))
  go_wp2_with fail
  clear e5
  refine HC.out.mono ?_
  rintro e w1 ⟨hb,n1,t1,D1,d1,g1,K1,k1,u1,er,rfl,hn,hr⟩
  have hB:=HB.out.call hb
  obtain⟨_,_,_,_,_,_,_,hx1,_⟩:=hB.box 7 (by decide) (by decide)
  obtain⟨⟨f0,f1,f2⟩,s0,s1,s2⟩:=st3 hx1
  have HN:=hd_ (hB.put (j:=7) (by decide) (by decide) (NdC.mono (fun g (hg:W4.heap.size≤g)=>by have:=HB.out.siz;omega) _ _ _ _ hn))
  have HQ:=hd_ hr
  clear hb hB hx1 hn hr HC HB
  go_upto_region 12 with fail
  obtain⟨W5,hW,hS⟩:=nw3 w1 (w.heap.size+7) (.int .u8 t1) (.slice D1 d1 g1) (.slice K1 k1 u1)
  rw[hW]
  have HB:=hd_ (nb_re hS HN.out)
  clear HN hW hS f0 f1 f2 s0 s1 s2
  by_cases hk: ¬hOK c.key=true
  ·have hr:=HQ.out
   rw[HS.out.2.2.2.1,if_neg hk] at hr
   have hr:er≠0:=hr
   have HK:=hd_ (Bool.eq_false_iff.2 hk)
   clear hk HQ
   go_wp2
   go_step3
   exact⟨rfl,by rw[←HR.out];exact nodesC_no (by unfold rightC;rw[HK0.out,HK1.out,HK2.out,HK3.out,HK4.out,HK.out];rfl),rfl,rfl,rfl,rfl,_,HB.out⟩
  have hk:=Classical.not_not.1 hk
  have hr:=HQ.out
  rw[HS.out.2.2.2.1,if_pos hk] at hr
  obtain⟨rfl,rfl⟩:=hr
  have HK5:=hd_ hk
  clear hk HQ
  obtain⟨y0,y1,y2,y3,y4,y5,y6,y7,y8⟩:=(box16 HB.out.arg).2.1
  have HC:=hd_ ((putE_any _ c.ex _ _ _ _ _ _ _ _ _ W5 (HX.out.ex.below HB.out.bel) (HT.out.below HB.out.bel)).mono fun _ _=>nst_ext)
  go_wp2_with fail
  clear y0 y1 y2 y3 y4 y5 y6 y7 y8
  refine HC.out.mono ?_
  rintro e w1 ⟨hb,n1,t1,D1,d1,g1,K1,k1,u1,er,rfl,hn,hr⟩
  have hB:=HB.out.call hb
  obtain⟨_,_,_,_,_,_,_,hx1,_⟩:=hB.box 8 (by decide) (by decide)
  obtain⟨⟨f0,f1,f2⟩,s0,s1,s2⟩:=st3 hx1
  have HN:=hd_ (hB.put (j:=8) (by decide) (by decide) (NdC.mono (fun g (hg:W5.heap.size≤g)=>by have:=HB.out.siz;omega) _ _ _ _ hn))
  have HQ:=hd_ hr
  clear hb hB hx1 hn hr HC HB
  go_upto_region 14 with fail
  obtain⟨W6,hW,hS⟩:=nw3 w1 (w.heap.size+8) (.int .u8 t1) (.slice D1 d1 g1) (.slice K1 k1 u1)
  rw[hW]
  have HB:=hd_ (nb_re hS HN.out)
  clear HN hW hS f0 f1 f2 s0 s1 s2
  by_cases hk: ¬rightX c.ex=true
  ·have hr:=HQ.out
   rw[putX_right HX.out.ex.u16,if_neg hk] at hr
   have hr:er≠0:=hr
   have HK:=hd_ (Bool.eq_false_iff.2 hk)
   clear hk HQ
   go_wp2
   go_step3
   exact⟨rfl,by rw[←HR.out];exact nodesC_no (by unfold rightC;rw[HK0.out,HK1.out,HK2.out,HK3.out,HK4.out,HK5.out,HK.out];rfl),rfl,rfl,rfl,rfl,_,HB.out⟩
  have hk:=Classical.not_not.1 hk
  have hr:=HQ.out
  rw[putX_right HX.out.ex.u16,if_pos hk] at hr
  obtain⟨rfl,rfl⟩:=hr
  have HK6:=hd_ hk
  clear hk HQ
  have e7:=(box16 HB.out.arg).2.2
  have HC:=hd_ (handleNode_any a7 W6 (by rw[HS.out.2.2.2.2];exact HX.out.sig.2))
  go_wp2_with fail
  clear e7
  refine HC.out.mono ?_
  rintro e w1 ⟨hb,n1,t1,D1,d1,g1,K1,k1,u1,er,rfl,hn,hr⟩
  have hB:=HB.out.call hb
  obtain⟨_,_,_,_,_,_,_,hx1,_⟩:=hB.box 2 (by decide) (by decide)
  obtain⟨⟨f0,f1,f2⟩,s0,s1,s2⟩:=st3 hx1
  have HN:=hd_ (hB.put (j:=2) (by decide) (by decide) (NdC.mono (fun g (hg:W6.heap.size≤g)=>by have:=HB.out.siz;omega) _ _ _ _ hn))
  have HQ:=hd_ hr
  clear hb hB hx1 hn hr HC HB
  go_upto_region 16 with fail
  obtain⟨W7,hW,hS⟩:=nw3 w1 (w.heap.size+2) (.int .u8 t1) (.slice D1 d1 g1) (.slice K1 k1 u1)
  rw[hW]
  have HB:=hd_ (nb_re hS HN.out)
  clear HN hW hS f0 f1 f2 s0 s1 s2
  by_cases hk: ¬hOK c.sig=true
  ·have hr:=HQ.out
   rw[HS.out.2.2.2.2,if_neg hk] at hr
   have hr:er≠0:=hr
   have HK:=hd_ (Bool.eq_false_iff.2 hk)
   clear hk HQ
   go_wp2
   go_step3
   exact⟨rfl,by rw[←HR.out];exact nodesC_no (by unfold rightC;rw[HK0.out,HK1.out,HK2.out,HK3.out,HK4.out,HK5.out,HK6.out,HK.out];rfl),rfl,rfl,rfl,rfl,_,HB.out⟩
  have hk:=Classical.not_not.1 hk
  have hr:=HQ.out
  rw[HS.out.2.2.2.2,if_pos hk] at hr
  obtain⟨rfl,rfl⟩:=hr
  have HK7:=hd_ hk
  clear hk HQ
  have HRR:=hd_ (show some (bodyC c,hNd c.sig)=R from by rw[←HR.out];unfold nodesC;rw[if_pos (by unfold rightC;rw[HK0.out,HK1.out,HK2.out,HK3.out,HK4.out,HK5.out,HK6.out,HK7.out];rfl)])
  have hz:=HB.out.siz
  obtain⟨t1,D1,d1,g1,K1,k1,u1,hx1,_⟩:=HB.out.box 1 (by decide) (by decide)
  obtain⟨t2,D2,d2,g2,K2,k2,u2,hx2,hn2⟩:=HB.out.box 2 (by decide) (by decide)
  obtain⟨t3,D3,d3,g3,K3,k3,u3,hx3,hn3⟩:=HB.out.box 3 (by decide) (by decide)
  obtain⟨t4,D4,d4,g4,K4,k4,u4,hx4,hn4⟩:=HB.out.box 4 (by decide) (by decide)
  obtain⟨t5,D5,d5,g5,K5,k5,u5,hx5,hn5⟩:=HB.out.box 5 (by decide) (by decide)
  obtain⟨t6,D6,d6,g6,K6,k6,u6,hx6,hn6⟩:=HB.out.box 6 (by decide) (by decide)
  obtain⟨t7,D7,d7,g7,K7,k7,u7,hx7,hn7⟩:=HB.out.box 7 (by decide) (by decide)
  obtain⟨t8,D8,d8,g8,K8,k8,u8,hx8,hn8⟩:=HB.out.box 8 (by decide) (by decide)
  have hn2:NdC (fun g=>w.heap.size+9≤g) W7 (hNd c.sig) (.int .u8 t2) (.slice D2 d2 g2) (.slice K2 k2 u2):=hn2
  have hn3:NdC (fun g=>w.heap.size+9≤g) W7 (nameN c.iss) (.int .u8 t3) (.slice D3 d3 g3) (.slice K3 k3 u3):=hn3
  have hn4:NdC (fun g=>w.heap.size+9≤g) W7 (timeNd c.frm) (.int .u8 t4) (.slice D4 d4 g4) (.slice K4 k4 u4):=hn4
  have hn5:NdC (fun g=>w.heap.size+9≤g) W7 (timeNd c.til) (.int .u8 t5) (.slice D5 d5 g5) (.slice K5 k5 u5):=hn5
  have hn6:NdC (fun g=>w.heap.size+9≤g) W7 (nameN c.sub) (.int .u8 t6) (.slice D6 d6 g6) (.slice K6 k6 u6):=hn6
  have hn7:NdC (fun g=>w.heap.size+9≤g) W7 (hNd c.key) (.int .u8 t7) (.slice D7 d7 g7) (.slice K7 k7 u7):=hn7
  have hn8:NdC (fun g=>w.heap.size+9≤g) W7 (nodeX c.ex) (.int .u8 t8) (.slice D8 d8 g8) (.slice K8 k8 u8):=hn8
  have HLK:=hd_ (fun W (hW:KP W7 (w.heap.size+1) W)=>ai_ (box16 (hW.at HB.out.arg (by omega))).1.1 (ai_ (st3 (hW.at hx3 (by omega))).2 (ai_ (st3 (hW.at hx4 (by omega))).2 (ai_ (st3 (hW.at hx5 (by omega))).2 (ai_ (st3 (hW.at hx6 (by omega))).2 (st3 (hW.at hx7 (by omega))).2)))))
  have HL:=hd_ (fun W (hW:Below W7.heap.size W7 W)=>HLK.out W (KP.of (by omega) hW))
  have HN:=hd_ (ai_ hn2 (ai_ hn3 (ai_ hn4 (ai_ hn5 (ai_ hn6 (ai_ hn7 hn8))))))
  have HH:=hd_ (ai_ hx1 (ai_ hx2 (ai_ hx8 hz)))
  have HPI:=hd_ (fun W=>putInt_any a0 W (by rw[HS.out.1];exact HX.out.ser.2))
  clear hn2 hn3 hn4 hn5 hn6 hn7 hn8 hx1 hx2 hx3 hx4 hx5 hx6 hx7 hx8
  go_upto_region 17 with fail
  go_cut [87] (fun s87 wx=>Hid (NTail w W7 c wx))
  case first=>
   try dsimp only
   refine wp_region_noPanic ?_
   refine rh_ mixed HL.out (below_drew W7) (fun hHeld=>?_)
   have hbd:=below_drew W7
   clear hz
   obtain⟨wd,hwd⟩:=nm_ (W7.drew)
   rw[hwd] at hHeld hbd⊢
   clear hwd
   refine tk_ (i:=0) (z:=?_)
   refine tk_ (i:=1) (z:=?_)
   refine tk_ (i:=4) (z:=?_)
   refine tk_ (i:=5) (z:=?_)
   refine tk_ (i:=6) (z:=?_)
   refine tk_ (i:=9) (z:=?_)
   refine tk_ (i:=10) (z:=?_)
   refine wpAnyH_ready (rs:=[2,7]) (by kernel_rfl) (by simp) ?_
   refine AllReadyH.cons (o:=⟨_,_,_,_,_,_⟩) rfl (fun KK hKK=>?_) (AllReadyH.cons (o:=⟨_,_,_,_,_,_⟩) rfl (fun KK hKK=>?_) AllReadyH.nil)
   focus
    go_simp
    refine(HPI.out wd).mono ?_
    rintro e wa ⟨A2,c2,rfl,y,hba⟩
    dsimp only
    have hb1:=below_then hbd hba (lr_ _)
    refine hKK.out _ _ (HL.out _ hb1) (fun hHeld=>?_)
    clear hKK KK
    try simp only[Act.put,qa_,qb_,qc_]
    have HY:=hd_ y
    clear y hba
    refine tk_ (i:=3) (z:=?_)
    refine on_ (i:=7) (z:=fun KK hKK=>?_)
    go_simp
    have hbn:=below_new wa (.cells #[.int .u8 t4,.slice D4 d4 g4,.slice K4 k4 u4,.int .u8 t5,.slice D5 d5 g5,.slice K5 k5 u5] 43)
    have hb2:=below_then hb1 hbn (lr_ _)
    refine hKK.out _ _ (HL.out _ hb2) (fun hHeld=>?_)
    clear hKK KK
    try simp only[Act.put,qa_,qb_,qc_]
    obtain⟨y1,y2,y3,y4⟩:=HY.out
    have hy4: ∀b off,A2=some ⟨b,off,none⟩→W7.heap.size≤b:=fun b off e=>Nat.le_trans hbd.size (y4 b off e).1
    have hq:=heap_new_ wa (.cells #[.int .u8 t4,.slice D4 d4 g4,.slice K4 k4 u4,.int .u8 t5,.slice D5 d5 g5,.slice K5 k5 u5] 43)
    have y1:=y1.below hbn
    have hgr:W7.heap.size≤wa.heap.size:=hb1.size
    obtain⟨wc,hwc⟩:=nm_ (wa.alloc (.cells #[.int .u8 t4,.slice D4 d4 g4,.slice K4 k4 u4,.int .u8 t5,.slice D5 d5 g5,.slice K5 k5 u5] 43))
    obtain⟨gr,hgr0⟩:=nm_ wa.heap.size
    rw[hwc] at hHeld hb2 y1 hq⊢
    rw[hgr0] at hq hgr⊢
    have HY:=hd_ (ai_ y1 (ai_ y2 (ai_ y3 (ai_ hy4 (ai_ hgr hq)))))
    have HC:=hd_ hb2
    clear y1 y2 y3 y4 hy4 hgr hq hb1 hb2 hbn hwc hgr0 hbd
   rotate_left
   focus
    go_simp
    have hbn:=below_new wd (.cells #[.int .u8 t4,.slice D4 d4 g4,.slice K4 k4 u4,.int .u8 t5,.slice D5 d5 g5,.slice K5 k5 u5] 43)
    have hq:=heap_new_ wd (.cells #[.int .u8 t4,.slice D4 d4 g4,.slice K4 k4 u4,.int .u8 t5,.slice D5 d5 g5,.slice K5 k5 u5] 43)
    have hb1:=below_then hbd hbn (lr_ _)
    refine hKK.out _ _ (HL.out _ hb1) (fun hHeld=>?_)
    clear hKK KK
    try simp only[Act.put,qa_,qb_,qc_]
    obtain⟨wa,hwa⟩:=nm_ (wd.alloc (.cells #[.int .u8 t4,.slice D4 d4 g4,.slice K4 k4 u4,.int .u8 t5,.slice D5 d5 g5,.slice K5 k5 u5] 43))
    obtain⟨gr,hgr0⟩:=nm_ wd.heap.size
    have hgr:W7.heap.size≤wd.heap.size:=hbd.size
    rw[hwa] at hHeld hb1 hq⊢
    rw[hgr0] at hq hgr⊢
    have HQ:=hd_ (ai_ hq hgr)
    have HC:=hd_ hb1
    clear hq hgr hb1 hbn hwa hgr0 hbd
    refine on_ (i:=2) (z:=fun KK hKK=>?_)
    go_simp
    refine(HPI.out wa).mono ?_
    rintro e wc ⟨A2,c2,rfl,y,hba⟩
    dsimp only
    have hb2:=below_then HC.out hba (lr_ _)
    refine hKK.out _ _ (HL.out _ hb2) (fun hHeld=>?_)
    clear hKK KK
    try simp only[Act.put,qa_,qb_,qc_]
    obtain⟨y1,y2,y3,y4⟩:=y
    have hy4: ∀b off,A2=some ⟨b,off,none⟩→W7.heap.size≤b:=fun b off e=>Nat.le_trans HC.out.size (y4 b off e).1
    have HY:=hd_ (ai_ y1 (ai_ y2 (ai_ y3 (ai_ hy4 (ai_ HQ.out.2 ((hba.block _ (Array.getElem?_eq_some_iff.1 HQ.out.1).1).trans HQ.out.1))))))
    have HC:=hd_ hb2
    clear y1 y2 y3 y4 hy4 hb2 hba HQ
    refine tk_ (i:=3) (z:=?_)
   all_goals (
    refine on_ (i:=8) (z:=fun KK hKK=>?_)
    go_simp
    refine(seqC_any _ _ _ wc).mono ?_
    rintro e w8 ⟨rfl,hb8⟩
    dsimp only
    refine hKK.out _ _ (HL.out _ (below_then HC.out hb8 (lr_ _))) (fun hHeld=>?_)
    clear hKK KK
    try simp only[Act.put,qa_,qb_,qc_]
    refine on_ (i:=11) (z:=fun KK hKK=>?_)
    go_simp
    have hbn:=below_new w8 (.cells #[.int .u8 2,.slice A2 (putI a0).length c2,.slice none 0 0,.int .u8 t3,.slice D3 d3 g3,.slice K3 k3 u3,.int .u8 48,.slice none 0 0,.slice (some ⟨gr,0,none⟩) 2 2,.int .u8 t6,.slice D6 d6 g6,.slice K6 k6 u6,.int .u8 t7,.slice D7 d7 g7,.slice K7 k7 u7] 43)
    have hqn:=heap_new_ w8 (.cells #[.int .u8 2,.slice A2 (putI a0).length c2,.slice none 0 0,.int .u8 t3,.slice D3 d3 g3,.slice K3 k3 u3,.int .u8 48,.slice none 0 0,.slice (some ⟨gr,0,none⟩) 2 2,.int .u8 t6,.slice D6 d6 g6,.slice K6 k6 u6,.int .u8 t7,.slice D7 d7 g7,.slice K7 k7 u7] 43)
    obtain⟨wn,hwn⟩:=nm_ (w8.alloc (.cells #[.int .u8 2,.slice A2 (putI a0).length c2,.slice none 0 0,.int .u8 t3,.slice D3 d3 g3,.slice K3 k3 u3,.int .u8 48,.slice none 0 0,.slice (some ⟨gr,0,none⟩) 2 2,.int .u8 t6,.slice D6 d6 g6,.slice K6 k6 u6,.int .u8 t7,.slice D7 d7 g7,.slice K7 k7 u7] 43))
    rw[hwn] at hbn hqn⊢
    refine hKK.out _ _ (HL.out _ (below_then (below_then HC.out hb8 (lr_ _)) hbn (lr_ _))) (fun hHeld=>?_)
    clear hKK KK
    try simp only[Act.put,qa_,qb_,qc_]
    have H8:=hd_ (ai_ hb8 (ai_ hbn hqn))
    clear hb8 hbn hqn hwn
    refine on_ (i:=12) (z:=fun KK hKK=>?_)
    go_simp
    refine(seqC_any _ _ _ wn).mono ?_
    rintro e wb ⟨rfl,hbb⟩
    dsimp only
    have hk:=below_then (below_then (below_then HC.out H8.out.1 (lr_ _)) H8.out.2.1 (lr_ _)) hbb (lr_ _)
    refine hKK.out _ _ (HL.out _ hk) (fun hHeld=>?_)
    clear hKK KK
    try simp only[Act.put,qa_,qb_,qc_]
    have hz:=HH.out.2.2.2
    obtain⟨⟨f0,f1,f2⟩,s0,s1,s2⟩:=st3 ((hk.block _ (by omega)).trans HH.out.1)
    have HK:=hd_ (ai_ hk hbb)
    clear hk hbb hz
    refine on_ (i:=13) (z:=fun KK hKK=>?_)
    go_simp
    refine hKK.out _ _ (HLK.out _ ((((KP.of (by have:=HH.out.2.2.2;omega) HK.out.1).set 0 _).set 1 _).set 2 _)) (fun hHeld=>?_)
    clear hKK KK
    try simp only[Act.put,qa_,qb_,qc_]
    clear f0 f1 f2 s0 s1 s2
    refine wpAnyH_done (by kernel_rfl) ?_ _
    refine NoPanic.normal ?_
    go_wp2_with fail
    go_meet
    exact hd_ (ntail_of HS.out.1 HH.out.2.2.2 HH.out.1 HN.out HC.out HY.out H8.out.1 H8.out.2.1 H8.out.2.2 HK.out.2))
  case rest=>
   obtain⟨hk,g,hg,hb1,hG⟩:=hcut.out
   have hx2:=hk.at HH.out.2.1 (by omega)
   have hx8:=hk.at HH.out.2.2.1 (by omega)
   have hz:=HH.out.2.2.2
   have hbel:Below w.heap.size w wc:=HB.out.bel.trans (hk.2.1.mono (by omega))
   have hn2:=hk.nd HN.out.1 (fun g (hg:w.heap.size+9≤g) _=>⟨by omega,hg⟩)
   have hn8:=hk.nd HN.out.2.2.2.2.2.2 (fun g (hg:w.heap.size+9≤g) _=>⟨by omega,hg⟩)
   have h8:=nd_len' hn8
   have x8:=(st3 hx8).2
   by_cases hm:k8=0
   ·have hn1:NdC (fun g=>w.heap.size+9≤g) wc (bodyC c) (.int .u8 48) (.slice none 0 0) (.slice (some ⟨g,0,none⟩) 5 5):=by
     obtain⟨A',k',e,h1,h2,hL⟩:=hG.lst (fun g hg=>hg)
     simp only[Value.slice.injEq] at e
     obtain⟨rfl,_,rfl⟩:=e
     have hb:bodyC c=.mk 48 [] [numN c.ser,nameN c.iss,.mk 48 [] [timeNd c.frm,timeNd c.til],nameN c.sub,hNd c.key]:=by
      unfold bodyC moreL
      rw[if_pos (by omega)]
      rfl
     rw[hb]
     exact ndC_of (by omega) h1 h2 hL
    subst hm
    clear hcut hk hG hn8 hx8 h8 hz
    have v1:wc.drew.heap[w.heap.size+1]? =some (.cells #[.int .u8 48,.slice none 0 0,.slice (some ⟨g,0,none⟩) 5 5] 43):=hb1
    have v2:wc.drew.heap[w.heap.size+2]? =some (.cells #[.int .u8 t2,.slice D2 d2 g2,.slice K2 k2 u2] 43):=hx2
    have hbel:=below_then hbel (below_drew wc) (lr_ _)
    have hn1:=NdC.below (below_drew wc) _ _ _ _ hn1
    have hn2:=NdC.below (below_drew wc) _ _ _ _ hn2
    have hne: ¬w.heap.size+2=w.heap.size+1:=by omega
    obtain⟨⟨f0,f1,f2⟩,s0,s1,s2⟩:=st3 hb1
    obtain⟨⟨f3,f4,f5⟩,s3,s4,s5⟩:=st3 hx2
    go_wp2_with fail
    try dsimp only
    refine wp_region_noPanic ?_
    refine rh_ mixed (S:=fun X:World=>(X.cell? ⟨w.heap.size+1,0,none⟩=some (.int .u8 48)∧X.cell? ⟨w.heap.size+1,1,none⟩=some (.slice none 0 0)∧X.cell? ⟨w.heap.size+1,2,none⟩=some (.slice (some ⟨g,0,none⟩) 5 5))∧X.cell? ⟨w.heap.size+2,0,none⟩=some (.int .u8 t2)∧X.cell? ⟨w.heap.size+2,1,none⟩=some (.slice D2 d2 g2)∧X.cell? ⟨w.heap.size+2,2,none⟩=some (.slice K2 k2 u2)) (K:=fun X=>X.heap[w.heap.size+1]? =some (.cells #[.int .u8 48,.slice none 0 0,.slice (some ⟨g,0,none⟩) 5 5] 43)∧X.heap[w.heap.size+2]? =some (.cells #[.int .u8 t2,.slice D2 d2 g2,.slice K2 k2 u2] 43)) (fun X hX=>ai_ (st3 hX.1).2 (st3 hX.2).2) ⟨v1,v2⟩ (fun hHeld=>?_)
    clear f0 f1 f2 f3 f4 f5 s0 s1 s2 s3 s4 s5 hb1 hx2
    obtain⟨wd,hwd⟩:=nm_ (wc.drew)
    rw[hwd] at hHeld v1 v2 hbel hn1 hn2⊢
    clear hwd
    have HF:=hd_ (nfin hbel v1 v2 hn1 hn2 _ rfl)
    clear hbel hn1 hn2
    refine tk_ (i:=0) (hS:=hHeld) (z:=?_)
    refine tk_ (i:=1) (hS:=hHeld) (z:=?_)
    obtain⟨⟨f0,f1,f2⟩,s0,s1,s2⟩:=st3 v1
    obtain⟨⟨f3,f4,f5⟩,s3,s4,s5⟩:=st3 v2
    have p2:=(set3_other wd (w.heap.size+1) (.int .u8 48) (.slice none 0 0) (.slice (some ⟨g,0,none⟩) 5 5) (g:=w.heap.size+2) (by omega)).trans v2
    have HP:=hd_ (ai_ (set3_box v1 (.int .u8 48) (.slice none 0 0) (.slice (some ⟨g,0,none⟩) 5 5)) (ai_ p2 (ai_ (set3_box p2 (.int .u8 t2) (.slice D2 d2 g2) (.slice K2 k2 u2)) ((set3_other _ (w.heap.size+2) (.int .u8 t2) (.slice D2 d2 g2) (.slice K2 k2 u2) (g:=w.heap.size+1) (by omega)).trans (set3_box v1 (.int .u8 48) (.slice none 0 0) (.slice (some ⟨g,0,none⟩) 5 5))))))
    clear v1 v2 p2
    refine on_ (i:=2) (z:=fun KK hKK=>?_)
    go_simp
    refine hKK.out _ _ (ai_ (st3 HP.out.1).2 (st3 HP.out.2.1).2) (fun hHeld=>?_)
    clear hKK KK
    try simp only[Act.put,qa_,qb_,qc_]
    refine on_ (i:=3) (z:=fun KK hKK=>?_)
    go_simp
    refine hKK.out _ _ (ai_ (st3 HP.out.2.2.2).2 (st3 HP.out.2.2.1).2) (fun hHeld=>?_)
    clear hKK KK
    try simp only[Act.put,qa_,qb_,qc_]
    clear f0 f1 f2 f3 f4 f5 s0 s1 s2 s3 s4 s5
    refine tk_ (i:=4) (hS:=hHeld) (z:=?_)
    refine wpAnyH_done (by kernel_rfl) ?_ _
    refine NoPanic.normal ?_
    clear hHeld
    go_wp2_with fail
    simp only[Exit.jump]
    obtain⟨⟨r0,r1,r2⟩,⟨r3,r4,r5⟩,hP⟩:=HF.out
    rw[HRR.out] at hP
    refine bodyPost_ret (v:=.tuple #[.agg #[.int .u8 48,.slice none 0 0,.slice (some ⟨g,0,none⟩) 5 5],.agg #[.int .u8 t2,.slice D2 d2 g2,.slice K2 k2 u2],.int .i64 0]) ?_ rfl hP
    unfold set3 at r0 r1 r2 r3 r4 r5
    simp[results,Tryz.results10,go_sem,r0,r1,r2,r3,r4,r5]
   ·have hgl:g<wc.heap.size:=(hG.lt g rfl).2
    have hn8:NdC (fun g'=>W7.heap.size>g'∧w.heap.size+9≤g') wc (nodeX c.ex) (.int .u8 t8) (.slice D8 d8 g8) (.slice K8 k8 u8):=hk.nd HN.out.2.2.2.2.2.2 (fun g (hg:w.heap.size+9≤g) hl=>⟨by omega,hl,hg⟩)
    have hzc:=hk.size
    have hpos:(0:Int)< (k8:Int):=by omega
    have H8:=hd_ h8
    have hbB:Below wc.heap.size wc ((wc.alloc (.cells #[.int .u8 t8,.slice D8 d8 g8,.slice K8 k8 u8] 43)).alloc (.cells #[.int .u8 163,.slice none 0 0,.slice (some ⟨wc.heap.size,0,none⟩) 1 1] 43)):=(below_new _ _).alloc (by simp) _
    have qa:((wc.alloc (.cells #[.int .u8 t8,.slice D8 d8 g8,.slice K8 k8 u8] 43)).alloc (.cells #[.int .u8 163,.slice none 0 0,.slice (some ⟨wc.heap.size,0,none⟩) 1 1] 43)).heap[wc.heap.size]? =some (.cells #[.int .u8 t8,.slice D8 d8 g8,.slice K8 k8 u8] 43):=by rw[heap_old_ _ _ (by simp)];exact heap_new_ _ _
    have qb:((wc.alloc (.cells #[.int .u8 t8,.slice D8 d8 g8,.slice K8 k8 u8] 43)).alloc (.cells #[.int .u8 163,.slice none 0 0,.slice (some ⟨wc.heap.size,0,none⟩) 1 1] 43)).heap[wc.heap.size+1]? =some (.cells #[.int .u8 163,.slice none 0 0,.slice (some ⟨wc.heap.size,0,none⟩) 1 1] 43):=heap_is (by simp)
    obtain⟨wB,hwB⟩:=nm_ ((wc.alloc (.cells #[.int .u8 t8,.slice D8 d8 g8,.slice K8 k8 u8] 43)).alloc (.cells #[.int .u8 163,.slice none 0 0,.slice (some ⟨wc.heap.size,0,none⟩) 1 1] 43))
    rw[hwB] at hbB qa qb
    have hgB:=(Array.getElem?_eq_some_iff.1 qb).1
    have fr: ∀g',w.heap.size+9≤g'→g'<wB.heap.size→g'≠g→Fr (fun g=>w.heap.size+9≤g) wB.heap.size (Value.slice (some ⟨g,0,none⟩) 5 5).ownBlock g':=fun g' h1 h2 h3=>⟨h1,h2,fun e=>h3 (Option.some.inj e)⟩
    have n163:NdC (Fr (fun g=>w.heap.size+9≤g) wB.heap.size (Value.slice (some ⟨g,0,none⟩) 5 5).ownBlock) wB (.mk 163 [] [nodeX c.ex]) (.int .u8 163) (.slice none 0 0) (.slice (some ⟨wc.heap.size,0,none⟩) 1 1):=
     ndC_of (by omega) (lr_ _) (by show 1≤maxLen;decide) (lst_all qa rfl (fr _ (by omega) (by omega) (by omega)) (all_nd (NdC.mono (fun g' hg'=>fr g' hg'.2 (by have:=hg'.1;omega) (by have:=hg'.1;omega)) _ _ _ _ (NdC.below hbB _ _ _ _ hn8)) all_nil))
    obtain⟨v',wE,hrun,hG',hgr⟩:=(hG.below (fun g hg=>hg) hbB).app Tryz.infN (fun g hg=>hg) 41 (g:=wc.heap.size+1) (off:=0) (c:=1) (x:=.mk 163 [] [nodeX c.ex]) (news:=[.int .u8 163,.slice none 0 0,.slice (some ⟨wc.heap.size,0,none⟩) 1 1]) (fr _ (by omega) (by omega) (by omega)) (fun j u hu=>by rw[Nat.zero_add,ch_ qb];simpa using hu) ⟨_,_,_,rfl,n163⟩ (by show 6*56≤140737488355328;decide) (by show 6≤maxLen;decide) (by omega)
    obtain⟨A',c',e',h1',h2'⟩:=hG'.shape
    have e':v'=.slice A' 6 c':=e'
    subst e'
    have h1':6≤c':=h1'
    have hbE:Below W7.heap.size wB wE:=(br_ _ _).grown hgr (by omega) (fun k hk=>by obtain rfl:g=k:=Option.some.inj hk;omega)
    have hkE:=(hk.then hbB).then2 hbE
    have hb1E:=(hgr.block (w.heap.size+1) (by omega) (fun e=>by have e:w.heap.size+1=g:=Option.some.inj e;omega)).trans ((hbB.block _ (by omega)).trans hb1)
    obtain⟨⟨f0,f1,f2⟩,s0,s1,s2⟩:=st3 hb1E
    obtain⟨_,s6,s7,s8⟩:=st3 hb1
    have hxB8:=(hbB.block _ (by omega)).trans hx8
    have HE:=hd_ (ai_ hkE (ai_ hb1E (ai_ hG' (ai_ h1' h2'))))
    clear hbB hbE hkE hb1E hG' h1' h2' hk hb1 hG hx2 hx8 hxB8 hbel hn2 hn8 h8 qa qb n163 fr hgr hcut hgB hzc
    clear hz
    go_upto_region 20 with (at_builtin;refine wpl_append rfl (.tmp 93) (.tmp 97) 41 rfl _ _ _ rfl rfl hrun ?_)
    obtain⟨hkE,hb1E,hG',h1',h2'⟩:=HE.out
    have hz:=HH.out.2.2.2
    have hkF:=hkE.set 2 (.slice A' 6 c')
    have hb1:(wE.setCell ⟨w.heap.size+1,2,none⟩ (.slice A' 6 c')).heap[w.heap.size+1]? =some (.cells #[.int .u8 48,.slice none 0 0,.slice A' 6 c'] 43):=set_heap _ _ 2 (.slice A' 6 c') _ _ _ hb1E
    have hx2:=hkF.at HH.out.2.1 (by omega)
    have hbel:=HB.out.bel.trans (hkF.2.1.mono (show w.heap.size≤w.heap.size+1 by omega))
    have hn2:=hkF.nd HN.out.1 (S':=fun g=>w.heap.size+9≤g) (fun g (hg:w.heap.size+9≤g) _=>⟨by omega,hg⟩)
    have hGF:=hG'.keep (fun g hg=>hg) (w':=wE.setCell ⟨w.heap.size+1,2,none⟩ (.slice A' 6 c')) (by rw[set_size];exact lr_ _) (fun g _ (hY:w.heap.size+9≤g)=>set_heap_other _ _ _ _ _ (by omega))
    have hn1:NdC (fun g=>w.heap.size+9≤g) (wE.setCell ⟨w.heap.size+1,2,none⟩ (.slice A' 6 c')) (bodyC c) (.int .u8 48) (.slice none 0 0) (.slice A' 6 c'):=by
     obtain⟨A2,k2,e,_,_,hL⟩:=hGF.lst (fun g hg=>hg)
     simp only[Value.slice.injEq] at e
     obtain⟨rfl,_,rfl⟩:=e
     have hb:bodyC c=.mk 48 [] ([numN c.ser,nameN c.iss,.mk 48 [] [timeNd c.frm,timeNd c.til],nameN c.sub,hNd c.key]++[.mk 163 [] [nodeX c.ex]]):=by
      unfold bodyC moreL
      rw[if_neg (by have:=H8.out;omega)]
     rw[hb]
     exact ndC_of (by omega) h1' h2' hL
    obtain⟨wF,hwF⟩:=nm_ (wE.setCell ⟨w.heap.size+1,2,none⟩ (.slice A' 6 c'))
    rw[hwF] at hb1 hx2 hbel hn1 hn2⊢
    clear f0 f1 f2 s0 s1 s2 s6 s7 s8 x8 hwF hkE hb1E hG' h1' h2' hkF hGF hrun hwB hpos
    have v1:wF.drew.heap[w.heap.size+1]? =some (.cells #[.int .u8 48,.slice none 0 0,.slice A' 6 c'] 43):=hb1
    have v2:wF.drew.heap[w.heap.size+2]? =some (.cells #[.int .u8 t2,.slice D2 d2 g2,.slice K2 k2 u2] 43):=hx2
    have hbel:=below_then hbel (below_drew wF) (lr_ _)
    have hn1:=NdC.below (below_drew wF) _ _ _ _ hn1
    have hn2:=NdC.below (below_drew wF) _ _ _ _ hn2
    have hne: ¬w.heap.size+2=w.heap.size+1:=by omega
    skip
    skip
    try dsimp only
    refine wp_region_noPanic ?_
    refine rh_ mixed (S:=fun X:World=>(X.cell? ⟨w.heap.size+1,0,none⟩=some (.int .u8 48)∧X.cell? ⟨w.heap.size+1,1,none⟩=some (.slice none 0 0)∧X.cell? ⟨w.heap.size+1,2,none⟩=some (.slice A' 6 c'))∧X.cell? ⟨w.heap.size+2,0,none⟩=some (.int .u8 t2)∧X.cell? ⟨w.heap.size+2,1,none⟩=some (.slice D2 d2 g2)∧X.cell? ⟨w.heap.size+2,2,none⟩=some (.slice K2 k2 u2)) (K:=fun X=>X.heap[w.heap.size+1]? =some (.cells #[.int .u8 48,.slice none 0 0,.slice A' 6 c'] 43)∧X.heap[w.heap.size+2]? =some (.cells #[.int .u8 t2,.slice D2 d2 g2,.slice K2 k2 u2] 43)) (fun X hX=>ai_ (st3 hX.1).2 (st3 hX.2).2) ⟨v1,v2⟩ (fun hHeld=>?_)
    clear hb1 hx2
    obtain⟨wd,hwd⟩:=nm_ (wF.drew)
    rw[hwd] at hHeld v1 v2 hbel hn1 hn2⊢
    clear hwd
    have HF:=hd_ (nfin hbel v1 v2 hn1 hn2 _ rfl)
    clear hbel hn1 hn2
    refine tk_ (i:=0) (hS:=hHeld) (z:=?_)
    refine tk_ (i:=1) (hS:=hHeld) (z:=?_)
    obtain⟨⟨f0,f1,f2⟩,s0,s1,s2⟩:=st3 v1
    obtain⟨⟨f3,f4,f5⟩,s3,s4,s5⟩:=st3 v2
    have p2:=(set3_other wd (w.heap.size+1) (.int .u8 48) (.slice none 0 0) (.slice A' 6 c') (g:=w.heap.size+2) (by omega)).trans v2
    have HP:=hd_ (ai_ (set3_box v1 (.int .u8 48) (.slice none 0 0) (.slice A' 6 c')) (ai_ p2 (ai_ (set3_box p2 (.int .u8 t2) (.slice D2 d2 g2) (.slice K2 k2 u2)) ((set3_other _ (w.heap.size+2) (.int .u8 t2) (.slice D2 d2 g2) (.slice K2 k2 u2) (g:=w.heap.size+1) (by omega)).trans (set3_box v1 (.int .u8 48) (.slice none 0 0) (.slice A' 6 c'))))))
    clear v1 v2 p2
    refine on_ (i:=2) (z:=fun KK hKK=>?_)
    go_simp
    refine hKK.out _ _ (ai_ (st3 HP.out.1).2 (st3 HP.out.2.1).2) (fun hHeld=>?_)
    clear hKK KK
    try simp only[Act.put,qa_,qb_,qc_]
    refine on_ (i:=3) (z:=fun KK hKK=>?_)
    go_simp
    refine hKK.out _ _ (ai_ (st3 HP.out.2.2.2).2 (st3 HP.out.2.2.1).2) (fun hHeld=>?_)
    clear hKK KK
    try simp only[Act.put,qa_,qb_,qc_]
    clear f0 f1 f2 f3 f4 f5 s0 s1 s2 s3 s4 s5
    refine tk_ (i:=4) (hS:=hHeld) (z:=?_)
    refine wpAnyH_done (by kernel_rfl) ?_ _
    refine NoPanic.normal ?_
    clear hHeld
    go_wp2_with fail
    simp only[Exit.jump]
    obtain⟨⟨r0,r1,r2⟩,⟨r3,r4,r5⟩,hP⟩:=HF.out
    rw[HRR.out] at hP
    refine bodyPost_ret (v:=.tuple #[.agg #[.int .u8 48,.slice none 0 0,.slice A' 6 c'],.agg #[.int .u8 t2,.slice D2 d2 g2,.slice K2 k2 u2],.int .i64 0]) ?_ rfl hP
    unfold set3 at r0 r1 r2 r3 r4 r5
    simp[results,Tryz.results10,go_sem,r0,r1,r2,r3,r4,r5]
 ·rintro⟨tmps,defers⟩ w' ⟨rfl,rfl,hs,h2,h3,f,hNB⟩
  obtain⟨_,_,_,_,_,_,_,hx1,_⟩:=hNB.box 1 (by decide) (by decide)
  obtain⟨_,_,_,_,_,_,_,hx2,_⟩:=hNB.box 2 (by decide) (by decide)
  obtain⟨⟨f0,f1,f2⟩,s0,s1,s2⟩:=st3 hx1
  obtain⟨⟨f3,f4,f5⟩,s3,s4,s5⟩:=st3 hx2
  have hne: ¬w.heap.size+2=w.heap.size+1:=by omega
  have kk: ∀(t:Array Value) (i:Nat) (v:Value),4≤i→(t.setIfInBounds i v).getD 2 undef=t.getD 2 undef∧(t.setIfInBounds i v).getD 3 undef=t.getD 3 undef:=fun t i v hi=>by
   constructor
   ·simp only[Array.getD_eq_getD_getElem?,Array.getElem?_setIfInBounds]
    rw[if_neg (by omega)]
   ·simp only[Array.getD_eq_getD_getElem?,Array.getElem?_setIfInBounds]
    rw[if_neg (by omega)]
  have k1:=fun(t:Array Value) (v:Value)=>(kk t 102 v (by decide)).1
  have k2:=fun(t:Array Value) (v:Value)=>(kk t 102 v (by decide)).2
  have k3:=fun(t:Array Value) (v:Value)=>(kk t 103 v (by decide)).1
  have k4:=fun(t:Array Value) (v:Value)=>(kk t 103 v (by decide)).2
  have HP:=hd_ (ai_ hNB.bel (ai_ hx1 hx2))
  clear kk hNB hx1 hx2 HX HT HB HR HS e0 hW9
  go_wp2
  simp only[Exit.jump]
  clear f0 f1 f2 f3 f4 f5 s0 s1 s2 s3 s4 s5
  obtain⟨hb,hx1,hx2⟩:=HP.out
  have z1:=(set3_other (set3 w' (w.heap.size+1) (.int .u8 0) (.slice none 0 0) (.slice none 0 0)) (w.heap.size+2) (.int .u8 0) (.slice none 0 0) (.slice none 0 0) (g:=w.heap.size+1) (by omega)).trans (set3_box hx1 _ _ _)
  have z2:=set3_box ((set3_other w' (w.heap.size+1) (.int .u8 0) (.slice none 0 0) (.slice none 0 0) (g:=w.heap.size+2) (by omega)).trans hx2) (.int .u8 0) (.slice none 0 0) (.slice none 0 0)
  have z3:=set3_below (b:=w.heap.size+2) (by omega) (set3_below (b:=w.heap.size+1) (by omega) hb (.int .u8 0) (.slice none 0 0) (.slice none 0 0)) (.int .u8 0) (.slice none 0 0) (.slice none 0 0)
  obtain⟨_,r0,r1,r2⟩:=st3 z1
  obtain⟨_,r3,r4,r5⟩:=st3 z2
  unfold set3 at r0 r1 r2 r3 r4 r5
  have g2:tmps[2]'(by omega)=.pointer (some ⟨w.heap.size+1,0,none⟩):=by rw[←h2];simp[Array.getD,hs]
  have g3:tmps[3]'(by omega)=.pointer (some ⟨w.heap.size+2,0,none⟩):=by rw[←h3];simp[Array.getD,hs]
  refine bodyPost_ret (v:=.tuple #[.agg #[.int .u8 0,.slice none 0 0,.slice none 0 0],.agg #[.int .u8 0,.slice none 0 0,.slice none 0 0],.int .i64 111]) ?_ rfl ⟨z3,rfl⟩
  simp[results,Tryz.results10,go_sem,r0,r1,r2,r3,r4,r5,g2,g3,hs]
end Go.Proofs.YtkjkhoglkpepiaaGreatDoor.nmc
