/- Parts of certificates: nodes of times and of handles, lists  -/
import Derived.Test.YtkjkhoglkpepiaaGreatDoorQb
import Derived.Test.YtkjkhoglkpepiaaGreatDoorAr
set_option maxRecDepth 100000
set_option maxHeartbeats 8000000
set_option linter.unusedVariables false
set_option linter.unusedSimpArgs false
namespace Go.Proofs.YtkjkhoglkpepiaaGreatDoor.nmc
open Go.RowKit tlvc tlvd ndc txc txm intc intm vtc
theorem rh_ {P:Program}{ops:Array Oper}{Q:Exit→Act→World→Prop}{S K:World→Prop}{id:Nat}{a:Act}{w:World}(hm:P.follows .mixedOrders=true)(hS: ∀W,K W→S W)(hK:K w.drew)(h:S w.drew→wpAnyH P .any ops Q S ops.size (Array.replicate ops.size false) a w.drew):(Code.region id ops true).wp P Q a w:=wp_region_held_drew hm (hS _ hK) h
theorem st3 {W:World}{b:Nat}{x0 x1 x2:Value}{T:TypeId}(h:W.heap[b]? =some (.cells #[x0,x1,x2] T)):(W.frozen? ⟨b,0,none⟩=false∧W.frozen? ⟨b,1,none⟩=false∧W.frozen? ⟨b,2,none⟩=false)∧W.cell? ⟨b,0,none⟩=some x0∧W.cell? ⟨b,1,none⟩=some x1∧W.cell? ⟨b,2,none⟩=some x2:=
 ⟨⟨fh_ h 0,fh_ h 1,fh_ h 2⟩,(ch_ h 0).trans rfl,(ch_ h 1).trans rfl,(ch_ h 2).trans rfl⟩
def NSt (S:Nat→Prop)(w:World)(r:Option Nd)(e:Ending)(w':World):Prop:=
 Below w.heap.size w w'∧∃n t A l k K m u er,e=.returned (.tuple #[.agg #[.int .u8 t,.slice A l k,.slice K m u],.int .i64 er])∧NdC S w' n (.int .u8 t) (.slice A l k) (.slice K m u)∧match r with
 |none=>er≠0
 |some m=>er=0∧n=m
theorem ndC_zero {S:Nat→Prop}{w:World}:NdC S w zeroN (.int .u8 0) (.slice none 0 0) (.slice none 0 0):=ndC_leaf (by omega) (lr_ _) (Nat.zero_le _) (Bys.nil_ _ _) (fun h=>absurd h (by omega))
theorem nst_no {S:Nat→Prop}{w w':World}{er:Int}(h:er≠0)(hb:Below w.heap.size w w'):NSt S w none (.returned (.tuple #[.agg #[.int .u8 0,.slice none 0 0,.slice none 0 0],.int .i64 er])) w':=⟨hb,_,_,_,_,_,_,_,_,_,rfl,ndC_zero,h⟩
theorem nst_put {S:Nat→Prop}{w w':World}{r:Option Nd}{e:Ending}(h:NPost0 S w r e w'):NSt S w r e w':=by
 obtain⟨hb,h⟩:=h
 cases r with
 |none=>obtain rfl:=h;exact nst_no (by decide) hb
 |some n=>obtain⟨t,A,l,k,K,m,u,rfl,hn⟩:=h;exact⟨hb,n,_,_,_,_,_,_,_,_,rfl,hn,rfl,rfl⟩
theorem nst_ext {w w':World}{r:Option Nd}{e:Ending}(h:XPut w r e w'):NSt (fun g=>w.heap.size≤g) w r e w':=by
 obtain⟨hb,h⟩:=h
 cases r with
 |none=>obtain rfl:=h;exact nst_no (by decide) hb
 |some n=>obtain⟨t,A,l,k,K,m,u,rfl,hn⟩:=h;exact⟨hb,n,_,_,_,_,_,_,_,_,rfl,NdC.mono (fun g (hg:w.heap.size+2≤g)=>by omega) _ _ _ _ hn,rfl,rfl⟩
theorem seqC_any (A:Option Addr)(n c:Nat)(w:World):
 Calls Tryz.prog 12 #[.slice A n c] w fun e w'=>e=.returned (.agg #[.int .u8 48,.slice none 0 0,.slice A n c])∧Below w.heap.size w w':=by
 obtain⟨W0,hW0⟩:=nm_ (w.alloc (.cells #[.int .u8 0,.slice none 0 0,.slice none 0 0] 43))
 have hb0:Below w.heap.size w W0:=by rw[←hW0];exact below_new _ _
 have p0:W0.heap[w.heap.size]? =some (.cells #[.int .u8 0,.slice none 0 0,.slice none 0 0] 43):=by rw[←hW0];exact heap_new_ _ _
 obtain⟨r0,r1,r2,hB⟩:=res3 (y0:=.int .u8 48) (y1:=.slice none 0 0) (y2:=.slice A n c) (lr_ _) hb0 p0
 obtain⟨⟨f0,f1,f2⟩,s0,s1,s2⟩:=st3 p0
 have HE:=hd_ hB
 clear hB hb0 p0
 go_enter Tryz.func12,Tryz.ntmps12
 go_wp2_with fail
 refine bodyPost_ret (v:=.agg #[.int .u8 48,.slice none 0 0,.slice A n c]) ?_ rfl ⟨rfl,HE.out⟩
 simp[results,Tryz.results12,go_sem,r0,r1,r2]
def KP (W0:World)(b:Nat)(W:World):Prop:=b≤W0.heap.size∧Below b W0 W∧∀g,g<W0.heap.size→g≠b→W.heap[g]? =W0.heap[g]?
theorem KP.size {W0 W:World}{b:Nat}(h:KP W0 b W):W0.heap.size≤W.heap.size:=h.2.1.size
theorem KP.of {W0 W:World}{b:Nat}(hb:b≤W0.heap.size)(h:Below W0.heap.size W0 W):KP W0 b W:=⟨hb,h.mono hb,fun g hg _=>h.block g hg⟩
theorem KP.then {W0 W W':World}{b:Nat}(h:KP W0 b W)(k:Below W.heap.size W W'):KP W0 b W':=⟨h.1,h.2.1.trans (k.mono (Nat.le_trans h.1 h.size)),fun g hg hn=>(k.block g (Nat.lt_of_lt_of_le hg h.size)).trans (h.2.2 g hg hn)⟩
theorem KP.then2 {W0 W W':World}{b:Nat}(h:KP W0 b W)(k:Below W0.heap.size W W'):KP W0 b W':=⟨h.1,h.2.1.trans (k.mono h.1),fun g hg hn=>(k.block g hg).trans (h.2.2 g hg hn)⟩
theorem KP.set {W0 W:World}{b:Nat}(h:KP W0 b W)(i:Nat)(v:Value):KP W0 b (W.setCell ⟨b,i,none⟩ v):=⟨h.1,h.2.1.setCell (p:=⟨b,i,none⟩) (lr_ _) v,fun g hg hn=>(set_heap_other _ _ _ _ _ hn).trans (h.2.2 g hg hn)⟩
theorem KP.nd {W0 W:World}{b:Nat}{S S':Nat→Prop}{n:Nd}{c0 c1 c2:Value}(h:KP W0 b W)(hn:NdC S W0 n c0 c1 c2)(hS: ∀g,S g→g<W0.heap.size→g≠b∧S' g):NdC S' W n c0 c1 c2:=
 NdC.mono (fun g hg=>(hS g hg.1 hg.2).2) _ _ _ _ (NdC.stays (B:=fun g=>S g∧g<W0.heap.size) ⟨h.size,fun p hp _=>cell_same (h.2.2 _ hp.2 (hS _ hp.1 hp.2).1)⟩ _ _ _ _ (NdC.bound _ _ _ _ hn))
theorem KP.at {W0 W:World}{b g:Nat}{o:Obj}(h:KP W0 b W)(hg:W0.heap[g]? =some o)(hn:g≠b):W.heap[g]? =some o:=(h.2.2 g (Array.getElem?_eq_some_iff.1 hg).1 hn).trans hg
theorem nd_len' {S:Nat→Prop}{w:World}{n:Nd}{c0 c1:Value}{K:Option Addr}{lk ck:Nat}(h:NdC S w n c0 c1 (.slice K lk ck)):lk=n.kids.length:=by
 obtain⟨t,b,ks⟩:=n
 obtain⟨_,_,_,K',ck',e,_⟩:=NdC.kidsL h
 simp only[Value.slice.injEq] at e
 exact e.2.1
theorem all_nil {α:Type}{E:El α}{S:Nat→Prop}{W:World}:All E S W [] []:=rfl
theorem all_nd {S:Nat→Prop}{W:World}{n:Nd}{a0 a1 a2:Value}{ns:List Nd}{cs:List Value}(h:NdC S W n a0 a1 a2)(hs:All ndE S W ns cs):All ndE S W (n::ns) (a0::a1::a2::cs):=⟨[a0,a1,a2],cs,rfl,⟨a0,a1,a2,rfl,h⟩,hs⟩
theorem grow_new {α:Type}{E:El α}{e:TypeId}{base g:Nat}{Y:Nat→Prop}{W:World}{arr:Array Value}{cs:List Value}{xs:List α}{n:Nat}(hp:W.heap[g]? =some (.cells arr e))(hc:arr.toList=cs)(hb:base≤g)(hn:cs.length=xs.length*E.sz)(hl:xs.length=n)(hm:n≤maxLen)(h:All E (Fr Y W.heap.size (some g)) W xs cs):GRow E e base Y W (.slice (some ⟨g,0,none⟩) n n) xs:=by
 subst hl
 exact⟨cs,⟨hn,.inr ⟨g,xs.length,arr,rfl,hb,hp,lr_ _,hm,by rw[←Array.length_toList,hc,hn],by rw[hc,←hn,List.take_length]⟩⟩,h⟩
theorem tag_bd (s:Int):0≤tagOf s∧tagOf s≤255:=by unfold tagOf;split<;>omega
theorem timeNode_any (s:Int)(w:World)(hi:I64 s):
 Calls Tryz.prog 22 #[.int .i64 s] w (NSt (fun g=>w.heap.size≤g) w (if inRB s=true then some (timeNd s) else none)):=by
 obtain⟨W0,hW0⟩:=nm_ (w.alloc (.cells #[.int .u8 0,.slice none 0 0,.slice none 0 0] 43))
 have hb0:Below w.heap.size w W0:=by rw[←hW0];exact below_new _ _
 have p0:W0.heap[w.heap.size]? =some (.cells #[.int .u8 0,.slice none 0 0,.slice none 0 0] 43):=by rw[←hW0];exact heap_new_ _ _
 have hz0:W0.heap.size=w.heap.size+1:=by rw[←hW0];simp
 have key: ∃t b er,Calls Tryz.prog 52 #[.int .i64 s] W0 (txc.Put W0 t b er)∧(0≤t∧t≤255)∧match (if inRB s=true then some (timeNd s) else none) with
  |none=>er≠0
  |some m=>er=0∧Nd.mk t b []=m:=by
  by_cases h:inRB s=true
  ·rw[if_pos h]
   exact⟨_,_,_,putTime_in s W0 (inRB_iff.1 h),tag_bd s,rfl,rfl⟩
  ·rw[if_neg h]
   exact⟨_,_,_,putTime_out s W0 (out_of (fun k=>h (inRB_iff.2 k))),by omega,by decide⟩
 obtain⟨t,b,er,hp,ht,hr⟩:=key
 obtain⟨R,hR⟩:=nm_ (if inRB s=true then some (timeNd s) else none)
 rw[hR] at hr⊢
 have HP:=hd_ hp
 have HB:=hd_ (ai_ hb0 (ai_ p0 (ai_ hz0 (ai_ ht hr))))
 clear hp hb0 p0 hz0 ht hr hR
 go_enter Tryz.func22,Tryz.ntmps22
 go_wp2_with fail
 refine HP.out.mono ?_
 rintro e w1 ⟨A,c,rfl,⟨h1,h2,h3,h4⟩,hb1⟩
 have hz:=HB.out.2.2.1
 have p1:=(hb1.block w.heap.size (by omega)).trans HB.out.2.1
 have hB1:=below_then HB.out.1 hb1 (lr_ _)
 have hn:NdC (fun g=>W0.heap.size≤g) w1 (.mk t b []) (.int .u8 t) (.slice A b.length c) (.slice none 0 0):=ndC_leaf HB.out.2.2.2.1 h2 h3 h1 (fun hl g off sp e=>by
  obtain⟨g',off',e',_⟩:=h1.2.2 hl
  rw[e] at e'
  simp only[Option.some.injEq,Addr.mk.injEq] at e'
  obtain⟨rfl,rfl,rfl⟩:=e'
  exact(h4 _ _ e).1)
 obtain⟨r0,r1,r2,hB⟩:=res3 (y0:=.int .u8 t) (y1:=.slice A b.length c) (y2:=.slice none 0 0) (lr_ _) hB1 p1
 have hn2:=res3_nd (b:=w.heap.size) (y0:=.int .u8 t) (y1:=.slice A b.length c) (y2:=.slice none 0 0) (fun g hg=>by omega) hn
 obtain⟨⟨f0,f1,f2⟩,s0,s1,s2⟩:=st3 p1
 have HE:=hd_ (ai_ hB (NdC.mono (B':=fun g=>w.heap.size≤g) (fun g hg=>by omega) _ _ _ _ hn2))
 obtain⟨len,hlen⟩:=nm_ (b.length)
 rw[hlen] at r0 r1 r2 HE⊢
 clear hB hn2 hn hB1 p1 h1 h2 h3 h4 hb1 hlen
 go_wp2_with fail
 refine bodyPost_ret (v:=.tuple #[.agg #[.int .u8 t,.slice A len c,.slice none 0 0],.int .i64 er]) ?_ rfl ⟨HE.out.1,.mk t b [],_,_,_,_,_,_,_,_,rfl,HE.out.2,?_⟩
 ·simp[results,Tryz.results22,go_sem,r0,r1,r2]
 ·have:=HB.out.2.2.2.2
  cases R with
  |none=>exact this
  |some m=>exact this
theorem handleNode_any (n:Int)(w:World)(hi:I64 n):
 Calls Tryz.prog 23 #[.int .i64 n] w (NSt (fun g=>w.heap.size≤g) w (if hOK n=true then some (hNd n) else none)):=by
 obtain⟨W0,hW0⟩:=nm_ (w.alloc (.cells #[.int .u8 0,.slice none 0 0,.slice none 0 0] 43))
 have hb0:Below w.heap.size w W0:=by rw[←hW0];exact below_new _ _
 have p0:W0.heap[w.heap.size]? =some (.cells #[.int .u8 0,.slice none 0 0,.slice none 0 0] 43):=by rw[←hW0];exact heap_new_ _ _
 have hz0:W0.heap.size=w.heap.size+1:=by rw[←hW0];simp
 by_cases h:hOK n=true
 ·rw[if_pos h]
  have HP:=hd_ (bytes_yes n W0 (hOK_iff.1 h))
  have hby:=hb_bys n W0 (hOK_iff.1 h)
  obtain⟨W1,hW1⟩:=nm_ (W0.alloc (.cells (vals (hbF n)).toArray 5))
  have hb1:Below W0.heap.size W0 W1:=by rw[←hW1];exact below_new _ _
  rw[hW1] at hby HP
  have p1:=(hb1.block w.heap.size (by omega)).trans p0
  have hn:NdC (fun g=>W0.heap.size≤g) W1 (.mk 4 (hbF n) []) (.int .u8 4) (.slice (some ⟨W0.heap.size,0,none⟩) 8 8) (.slice none 0 0):=ndC_leaf (by omega) (lr_ _) (by decide) hby (fun _ g off sp e=>by cases e;exact lr_ _)
  obtain⟨r0,r1,r2,hB⟩:=res3 (y0:=.int .u8 4) (y1:=.slice (some ⟨W0.heap.size,0,none⟩) 8 8) (y2:=.slice none 0 0) (lr_ _) (below_then hb0 hb1 (lr_ _)) p1
  have hn2:=res3_nd (b:=w.heap.size) (y0:=.int .u8 4) (y1:=.slice (some ⟨W0.heap.size,0,none⟩) 8 8) (y2:=.slice none 0 0) (fun g hg=>by omega) hn
  obtain⟨⟨f0,f1,f2⟩,s0,s1,s2⟩:=st3 p1
  have HE:=hd_ (ai_ hB (NdC.mono (B':=fun g=>w.heap.size≤g) (fun g hg=>by omega) _ _ _ _ hn2))
  have hR:hNd n=.mk 4 (hbF n) []:=rfl
  rw[hR]
  obtain⟨nd,hnd⟩:=nm_ (Nd.mk 4 (hbF n) [])
  rw[hnd] at HE⊢
  have hnil:=fun W=>eql_nil (P:=Tryz.prog) W 34 5 (some ⟨W0.heap.size,0,none⟩) 8 8 Tryz.underlying34
  clear hB hn2 hn hb1 hb0 p0 p1 hby hz0 hR hnd hW1
  go_enter Tryz.func23,Tryz.ntmps23
  go_wp2_with fail
  refine HP.out.mono ?_
  rintro e w1 ⟨rfl,rfl⟩
  go_wp2_with fail
  refine bodyPost_ret (v:=.tuple #[.agg #[.int .u8 4,.slice (some ⟨W0.heap.size,0,none⟩) 8 8,.slice none 0 0],.int .i64 0]) ?_ rfl ⟨HE.out.1,nd,_,_,_,_,_,_,_,_,rfl,HE.out.2,rfl,rfl⟩
  simp[results,Tryz.results23,go_sem,r0,r1,r2]
 ·rw[if_neg h]
  have HP:=hd_ (bytes_no n W0 hi (fun k=>h (hOK_iff.2 k)))
  obtain⟨r0,r1,r2,hB⟩:=res3 (y0:=.int .u8 0) (y1:=.slice none 0 0) (y2:=.slice none 0 0) (lr_ _) hb0 p0
  obtain⟨⟨f0,f1,f2⟩,s0,s1,s2⟩:=st3 p0
  have HE:=hd_ hB
  have hnil:=fun W=>eql_nil (P:=Tryz.prog) W 34 5 none 0 0 Tryz.underlying34
  clear hB hb0 p0 hz0
  go_enter Tryz.func23,Tryz.ntmps23
  go_wp2_with fail
  refine HP.out.mono ?_
  rintro e w1 ⟨rfl,rfl⟩
  go_wp2_with fail
  refine bodyPost_ret (v:=.tuple #[.agg #[.int .u8 0,.slice none 0 0,.slice none 0 0],.int .i64 111]) ?_ rfl (nst_no (by decide) HE.out)
  simp[results,Tryz.results23,go_sem,r0,r1,r2]
theorem handleOf_any (B:Nat→Prop)(n:Nd)(c0 c1 c2:Value)(w:World)(hn:NdC B w n c0 c1 c2):
 Calls Tryz.prog 45 #[.agg #[c0,c1,c2]] w fun e w'=>Below w.heap.size w w'∧∃v er,e=.returned (.tuple #[.int .i64 v,.int .i64 er])∧match numF n.body with
  |none=>v=0∧er≠0
  |some m=>er=0∧v=m:=by
 obtain⟨t,A1,l1,k1,K1,m1,u1,rfl,rfl,rfl⟩:=hn.shape
 obtain⟨h1,h2,h3,h4⟩:=body_size hn
 obtain⟨W0,hW0⟩:=nm_ (w.alloc (.cells #[.int .u8 t,.slice A1 l1 k1,.slice K1 m1 u1] 43))
 have hb0:Below w.heap.size w W0:=by rw[←hW0];exact below_new _ _
 have p0:W0.heap[w.heap.size]? =some (.cells #[.int .u8 t,.slice A1 l1 k1,.slice K1 m1 u1] 43):=by rw[←hW0];exact heap_new_ _ _
 obtain⟨_,x0,x1,x2⟩:=st3 p0
 have HP:=hd_ (vtc.number_any A1 l1 k1 n.body W0 (h3.below hb0) h1 h2)
 obtain⟨R,hR⟩:=nm_ (numF n.body)
 rw[hR] at HP⊢
 have HB:=hd_ hb0
 clear hb0 p0 hR hn h1 h2 h3 h4
 go_enter Tryz.func45,Tryz.ntmps45
 go_wp2_with fail
 refine HP.out.mono ?_
 rintro e w1 ⟨rfl,rfl⟩
 cases R with
 |none=>
  go_wp2
  go_ret2
  exact⟨HB.out,0,111,rfl,rfl,by decide⟩
 |some m=>
  go_wp2
  go_ret2
  exact⟨HB.out,m,0,rfl,rfl,rfl⟩
end Go.Proofs.YtkjkhoglkpepiaaGreatDoor.nmc
