/- Parts of lists: nodes of times, lists of nodes, and what they tell. -/
import Derived.Test.YtconbejjagcnkaaGreatDoorWb
import Derived.Test.YtconbejjagcnkaaGreatDoorYh
import Derived.Deep.RegionHeld3
import Derived.Deep.LoopGhost
set_option maxRecDepth 100000
set_option maxHeartbeats 8000000
set_option linter.unusedVariables false
set_option linter.unusedSimpArgs false
namespace Go.Proofs.YtconbejjagcnkaaGreatDoor.nmc
open Go.RowKit tlvc tlvd ndc txc txm intc intm vtc
theorem rh_ {P:Program}{ops:Array Oper}{Q:Exit→Act→World→Prop}{S K:World→Prop}{id:Nat}{a:Act}{w:World}(hm:P.follows .mixedOrders=true)(hS: ∀W,K W→S W)(hK:K w.drew)(h:S w.drew→wpAnyH P .any ops Q S ops.size (Array.replicate ops.size false) a w.drew):(Code.region id ops true).wp P Q a w:=wp_region_held_drew hm (hS _ hK) h
theorem st3 {W:World}{b:Nat}{x0 x1 x2:Value}{T:TypeId}(h:W.heap[b]? =some (.cells #[x0,x1,x2] T)):(W.frozen? ⟨b,0,none⟩=false∧W.frozen? ⟨b,1,none⟩=false∧W.frozen? ⟨b,2,none⟩=false)∧W.cell? ⟨b,0,none⟩=some x0∧W.cell? ⟨b,1,none⟩=some x1∧W.cell? ⟨b,2,none⟩=some x2:=
 ⟨⟨fh_ h 0,fh_ h 1,fh_ h 2⟩,(ch_ h 0).trans rfl,(ch_ h 1).trans rfl,(ch_ h 2).trans rfl⟩
def NSt (S:Nat→Prop)(w:World)(r:Option Nd)(e:Ending)(w':World):Prop:=
 Below w.heap.size w w'∧∃n t A l k K m u er,e=.returned (.tuple #[.agg #[.int .u8 t,.slice A l k,.slice K m u],.int .i64 er])∧NdC S w' n (.int .u8 t) (.slice A l k) (.slice K m u)∧match r with
 |none=>er≠0
 |some m=>er=0∧n=m
theorem ndC_zero {S:Nat→Prop}{w:World}:NdC S w zeroN (.int .u8 0) (.slice none 0 0) (.slice none 0 0):=ndC_leaf (by omega) (lr_ _) (Nat.zero_le _) (Bys.nil_ _ _) (fun h=>absurd h (by omega))
theorem nst_no {S:Nat→Prop}{w w':World}{er:Int}(h:er≠0)(hb:Below w.heap.size w w'):NSt S w none (.returned (.tuple #[.agg #[.int .u8 0,.slice none 0 0,.slice none 0 0],.int .i64 er])) w':=⟨hb,_,_,_,_,_,_,_,_,_,rfl,ndC_zero,h⟩
theorem nst_put {S:Nat→Prop}{w w':World}{r:Option Nd}{e:Ending}(h:NPost0 S w r e w'):NSt S w r e w':=by
 obtain⟨hb,h⟩:=h
 cases r with
 |none=>obtain rfl:=h;exact nst_no (by decide) hb
 |some n=>obtain⟨t,A,l,k,K,m,u,rfl,hn⟩:=h;exact⟨hb,n,_,_,_,_,_,_,_,_,rfl,hn,rfl,rfl⟩
theorem seqC_any (A:Option Addr)(n c:Nat)(w:World):
 Calls Tryz.prog 17 #[.slice A n c] w fun e w'=>e=.returned (.agg #[.int .u8 48,.slice none 0 0,.slice A n c])∧Below w.heap.size w w':=by
 obtain⟨W0,hW0⟩:=nm_ (w.alloc (.cells #[.int .u8 0,.slice none 0 0,.slice none 0 0] 40))
 have hb0:Below w.heap.size w W0:=by rw[←hW0];exact below_new _ _
 have p0:W0.heap[w.heap.size]? =some (.cells #[.int .u8 0,.slice none 0 0,.slice none 0 0] 40):=by rw[←hW0];exact heap_new_ _ _
 obtain⟨r0,r1,r2,hB⟩:=res3 (y0:=.int .u8 48) (y1:=.slice none 0 0) (y2:=.slice A n c) (lr_ _) hb0 p0
 obtain⟨⟨f0,f1,f2⟩,s0,s1,s2⟩:=st3 p0
 have HE:=hd_ hB
 clear hB hb0 p0
 go_enter Tryz.func17,Tryz.ntmps17
 go_wp2_with fail
 refine bodyPost_ret (v:=.agg #[.int .u8 48,.slice none 0 0,.slice A n c]) ?_ rfl ⟨rfl,HE.out⟩
 simp[results,Tryz.results17,go_sem,r0,r1,r2]
def KP (W0:World)(b:Nat)(W:World):Prop:=b≤W0.heap.size∧Below b W0 W∧∀g,g<W0.heap.size→g≠b→W.heap[g]? =W0.heap[g]?
theorem KP.size {W0 W:World}{b:Nat}(h:KP W0 b W):W0.heap.size≤W.heap.size:=h.2.1.size
theorem KP.of {W0 W:World}{b:Nat}(hb:b≤W0.heap.size)(h:Below W0.heap.size W0 W):KP W0 b W:=⟨hb,h.mono hb,fun g hg _=>h.block g hg⟩
theorem KP.then {W0 W W':World}{b:Nat}(h:KP W0 b W)(k:Below W.heap.size W W'):KP W0 b W':=⟨h.1,h.2.1.trans (k.mono (Nat.le_trans h.1 h.size)),fun g hg hn=>(k.block g (Nat.lt_of_lt_of_le hg h.size)).trans (h.2.2 g hg hn)⟩
theorem KP.set {W0 W:World}{b:Nat}(h:KP W0 b W)(i:Nat)(v:Value):KP W0 b (W.setCell ⟨b,i,none⟩ v):=⟨h.1,h.2.1.setCell (p:=⟨b,i,none⟩) (lr_ _) v,fun g hg hn=>(set_heap_other _ _ _ _ _ hn).trans (h.2.2 g hg hn)⟩
theorem KP.nd {W0 W:World}{b:Nat}{S S':Nat→Prop}{n:Nd}{c0 c1 c2:Value}(h:KP W0 b W)(hn:NdC S W0 n c0 c1 c2)(hS: ∀g,S g→g<W0.heap.size→g≠b∧S' g):NdC S' W n c0 c1 c2:=
 NdC.mono (fun g hg=>(hS g hg.1 hg.2).2) _ _ _ _ (NdC.stays (B:=fun g=>S g∧g<W0.heap.size) ⟨h.size,fun p hp _=>cell_same (h.2.2 _ hp.2 (hS _ hp.1 hp.2).1)⟩ _ _ _ _ (NdC.bound _ _ _ _ hn))
theorem KP.at {W0 W:World}{b g:Nat}{o:Obj}(h:KP W0 b W)(hg:W0.heap[g]? =some o)(hn:g≠b):W.heap[g]? =some o:=(h.2.2 g (Array.getElem?_eq_some_iff.1 hg).1 hn).trans hg
theorem all_nil {α:Type}{E:El α}{S:Nat→Prop}{W:World}:All E S W [] []:=rfl
theorem all_nd {S:Nat→Prop}{W:World}{n:Nd}{a0 a1 a2:Value}{ns:List Nd}{cs:List Value}(h:NdC S W n a0 a1 a2)(hs:All ndE S W ns cs):All ndE S W (n::ns) (a0::a1::a2::cs):=⟨[a0,a1,a2],cs,rfl,⟨a0,a1,a2,rfl,h⟩,hs⟩
theorem grow_new {α:Type}{E:El α}{e:TypeId}{base g:Nat}{Y:Nat→Prop}{W:World}{arr:Array Value}{cs:List Value}{xs:List α}{n:Nat}(hp:W.heap[g]? =some (.cells arr e))(hc:arr.toList=cs)(hb:base≤g)(hn:cs.length=xs.length*E.sz)(hl:xs.length=n)(hm:n≤maxLen)(h:All E (Fr Y W.heap.size (some g)) W xs cs):GRow E e base Y W (.slice (some ⟨g,0,none⟩) n n) xs:=by
 subst hl
 exact⟨cs,⟨hn,.inr ⟨g,xs.length,arr,rfl,hb,hp,lr_ _,hm,by rw[←Array.length_toList,hc,hn],by rw[hc,←hn,List.take_length]⟩⟩,h⟩
theorem tag_bd (s:Int):0≤tagOf s∧tagOf s≤255:=by unfold tagOf;split<;>omega
theorem timeNode_any (s:Int)(w:World)(hi:I64 s):
 Calls Tryz.prog 34 #[.int .i64 s] w (NSt (fun g=>w.heap.size≤g) w (if inRB s=true then some (timeNd s) else none)):=by
 obtain⟨W0,hW0⟩:=nm_ (w.alloc (.cells #[.int .u8 0,.slice none 0 0,.slice none 0 0] 40))
 have hb0:Below w.heap.size w W0:=by rw[←hW0];exact below_new _ _
 have p0:W0.heap[w.heap.size]? =some (.cells #[.int .u8 0,.slice none 0 0,.slice none 0 0] 40):=by rw[←hW0];exact heap_new_ _ _
 have hz0:W0.heap.size=w.heap.size+1:=by rw[←hW0];simp
 have key: ∃t b er,Calls Tryz.prog 72 #[.int .i64 s] W0 (txc.Put W0 t b er)∧(0≤t∧t≤255)∧match (if inRB s=true then some (timeNd s) else none) with
  |none=>er≠0
  |some m=>er=0∧Nd.mk t b []=m:=by
  by_cases h:inRB s=true
  ·rw[if_pos h]
   exact⟨_,_,_,putTime_in s W0 (inRB_iff.1 h),tag_bd s,rfl,rfl⟩
  ·rw[if_neg h]
   exact⟨_,_,_,putTime_out s W0 (out_of (fun k=>h (inRB_iff.2 k))),by omega,by decide⟩
 obtain⟨t,b,er,hp,ht,hr⟩:=key
 obtain⟨R,hR⟩:=nm_ (if inRB s=true then some (timeNd s) else none)
 rw[hR] at hr⊢
 have HP:=hd_ hp
 have HB:=hd_ (ai_ hb0 (ai_ p0 (ai_ hz0 (ai_ ht hr))))
 clear hp hb0 p0 hz0 ht hr hR
 go_enter Tryz.func34,Tryz.ntmps34
 go_wp2_with fail
 refine HP.out.mono ?_
 rintro e w1 ⟨A,c,rfl,⟨h1,h2,h3,h4⟩,hb1⟩
 have hz:=HB.out.2.2.1
 have p1:=(hb1.block w.heap.size (by omega)).trans HB.out.2.1
 have hB1:=below_then HB.out.1 hb1 (lr_ _)
 have hn:NdC (fun g=>W0.heap.size≤g) w1 (.mk t b []) (.int .u8 t) (.slice A b.length c) (.slice none 0 0):=ndC_leaf HB.out.2.2.2.1 h2 h3 h1 (fun hl g off sp e=>by
  obtain⟨g',off',e',_⟩:=h1.2.2 hl
  rw[e] at e'
  simp only[Option.some.injEq,Addr.mk.injEq] at e'
  obtain⟨rfl,rfl,rfl⟩:=e'
  exact(h4 _ _ e).1)
 obtain⟨r0,r1,r2,hB⟩:=res3 (y0:=.int .u8 t) (y1:=.slice A b.length c) (y2:=.slice none 0 0) (lr_ _) hB1 p1
 have hn2:=res3_nd (b:=w.heap.size) (y0:=.int .u8 t) (y1:=.slice A b.length c) (y2:=.slice none 0 0) (fun g hg=>by omega) hn
 obtain⟨⟨f0,f1,f2⟩,s0,s1,s2⟩:=st3 p1
 have HE:=hd_ (ai_ hB (NdC.mono (B':=fun g=>w.heap.size≤g) (fun g hg=>by omega) _ _ _ _ hn2))
 obtain⟨len,hlen⟩:=nm_ (b.length)
 rw[hlen] at r0 r1 r2 HE⊢
 clear hB hn2 hn hB1 p1 h1 h2 h3 h4 hb1 hlen
 go_wp2_with fail
 refine bodyPost_ret (v:=.tuple #[.agg #[.int .u8 t,.slice A len c,.slice none 0 0],.int .i64 er]) ?_ rfl ⟨HE.out.1,.mk t b [],_,_,_,_,_,_,_,_,rfl,HE.out.2,?_⟩
 ·simp[results,Tryz.results34,go_sem,r0,r1,r2]
 ·have:=HB.out.2.2.2.2
  cases R with
  |none=>exact this
  |some m=>exact this
theorem ls4 {α:Type}{E:El α}{S:Nat→Prop}{w:World}{xs:List α}{A:Option Addr}{l k:Nat}(h:LsC E S w xs (.slice A l k)):xs.length=l∧l≤k∧k≤maxLen∧Lst E S w A xs:=by
 obtain⟨A',k',e,h1,h2,h3⟩:=h
 simp only[Value.slice.injEq] at e
 obtain⟨rfl,rfl,rfl⟩:=e
 exact⟨rfl,h1,h2,h3⟩
theorem prPost_re {w W w':World}{r:WR}{e:Ending}(hb:Below w.heap.size w W)(h:PrPost W r e w'):PrPost w r e w':=by
 obtain⟨h1,h2⟩:=h
 refine⟨below_then hb h1 (lr_ _),?_⟩
 cases r with
 |no er=>exact h2
 |ok b=>obtain⟨A,c,e,h3,h4,h5⟩:=h2;exact⟨A,c,e,h3,h4,fun g off sp h=>Nat.le_trans hb.size (h5 g off sp h)⟩
def GetPostF (w:World)(r:Option (List At))(e:Ending)(w':World):Prop:=
 Below w.heap.size w w'∧match r with
  |none=>e=.returned (.tuple #[.slice none 0 0,.int .i64 91])
  |some l=>∃A c,e=.returned (.tuple #[.slice A l.length c,.int .i64 0])∧l.length≤c∧c≤maxLen∧Lst atE (fun g=>w.heap.size≤g) w' A l
theorem getF_any (B:Nat→Prop)(n:Nd)(c0 c1 c2:Value)(w:World)(hn:NdC B w n c0 c1 c2)(hT:Tabs w):
 Calls Tryz.prog 53 #[.agg #[c0,c1,c2]] w (GetPostF w (getN n)):=by
 obtain⟨t,A1,l1,k1,K1,m1,n1,rfl,rfl,rfl⟩:=hn.shape
 obtain⟨W0,hW0⟩:=nm_ (w.alloc (.cells #[.int .u8 t,.slice A1 l1 k1,.slice K1 m1 n1] 40))
 have hb0:Below w.heap.size w W0:=by rw[←hW0];exact below_new _ _
 have q0:W0.heap[w.heap.size]? =some (.cells #[.int .u8 t,.slice A1 l1 k1,.slice K1 m1 n1] 40):=by rw[←hW0];exact heap_new_ _ _
 obtain⟨x0,x1,x2⟩:=box_nd (br_ _ W0) q0
 have hpt:=partsA_any B n _ _ _ W0 (NdC.below hb0 _ _ _ _ hn)
 rw[show(n.kids.take 8).map toldA=toldN n from rfl] at hpt
 rw[getN_back]
 obtain⟨l,hl⟩:=nm_ (toldN n)
 rw[hl] at hpt⊢
 have hap:=fun(A:Option Addr) (c:Nat) (W:World) (hW:Below w.heap.size w W) (h1:l.length≤c) (h2:c≤maxLen) (hL:Lst atE (fun g=>w.heap.size≤g) W A l)=>asPutN_any B (fun g=>w.heap.size≤g) n A l.length c l _ _ _ W (NdC.below hW _ _ _ _ hn) rfl hL h1 h2 (hT.below hW)
 obtain⟨bk,hbk⟩:=nm_ (backN l n)
 rw[hbk] at hap⊢
 obtain⟨R,hR⟩:=nm_ ((if bk=true then some l else none))
 rw[hR]
 have HR:=hd_ hR
 have HP:=hd_ hpt
 have HA:=hd_ hap
 have HB:=hd_ (ai_ hb0 q0)
 clear hpt hap hb0 q0 hl hbk hn hT hR
 go_enter Tryz.func53,Tryz.ntmps53
 go_wp2_with fail
 refine HP.out.mono ?_
 rintro e w1 ⟨hb1,A,c,rfl,h1,h2,hL⟩
 have hL:=hL.mono (S':=fun g=>w.heap.size≤g) (fun g hg=>Nat.le_trans HB.out.1.size hg)
 have hbw:=below_then HB.out.1 hb1 (lr_ _)
 clear x0 x1 x2
 obtain⟨x0,x1,x2⟩:=box_nd hb1 HB.out.2
 have hcall:=HA.out A c w1 hbw h1 h2 hL
 have HC:=hd_ hcall
 have HW:=hd_ (ai_ hbw (ai_ h1 (ai_ h2 hL)))
 obtain⟨ll,hll⟩:=nm_ (l.length)
 rw[hll] at HC HW⊢
 have HLL:=hd_ hll
 clear hcall hbw hb1 h1 h2 hL HP HA HB hll
 go_wp2_with fail
 refine HC.out.mono ?_
 rintro e w2 ⟨hb2,he⟩
 have HF:=hd_ (below_then HW.out.1 hb2 (lr_ _))
 have HL:=hd_ (HW.out.2.2.2.below hb2)
 clear hb2 HC x0 x1 x2
 cases bk
 ·have he:e=.returned (.tuple #[.slice none 0 0,.int .i64 91]):=he
  have hR:none=R:=HR.out
  subst hR
  subst he
  go_wp2
  go_ret2
  exact⟨HF.out,rfl⟩
 ·have he:e=.returned (.tuple #[.slice A ll c,.int .i64 0]):=he
  have hR:some l=R:=HR.out
  subst hR
  subst he
  go_wp2
  go_ret2
  exact⟨HF.out,A,c,by rw[HLL.out];rfl,by rw[HLL.out];exact HW.out.2.1,HW.out.2.2.1,HL.out⟩
theorem timeN_i64 (t:Int)(xs:List Int):I64 (timeN t xs):=by
 unfold timeN
 split
 ·rename_i h
  have:=h.1
  unfold InR at this
  unfold I64
  omega
 ·unfold I64;decide
theorem numF_i64 {b:List Int}{v:Int}(hf:Fit b)(h:numF b=some v):I64 v:=by
 have:=(num_some hf h).1
 unfold I64
 omega
theorem kidC_any (B:Nat→Prop)(n:Nd)(i:Nat)(c0 c1 c2:Value)(w:World)(hn:NdC B w n c0 c1 c2)(hi:i≤1000):
    Calls Tryz.prog 52 #[.agg #[c0,c1,c2],.int .i64 i] w (NVal B w (kidF n i)):=by
  obtain⟨t,b,ks⟩:=n
  obtain⟨rfl,ht,⟨A,la,ca,rfl,hA1,hA2,hA3,_⟩,K,ck,rfl,hK1,hK2,hK3⟩:=NdC.kidsL hn
  have h9:ck≤9223372036854775807:=by unfold maxLen at hK2;omega
  have hkf:kidF (.mk t b ks) i=ks.getD i (.mk 0 [] []):=rfl
  rw[hkf]
  obtain⟨n,hn0⟩: ∃x,ks.length=x:=⟨_,rfl⟩
  rw[hn0] at hK1⊢
  obtain⟨W0,hW0⟩: ∃x,(w.alloc (.cells #[.int .u8 t,.slice A la ca,.slice K n ck] 40)).alloc (.cells #[.int .u8 0,.slice none 0 0,.slice none 0 0] 40)=x:=⟨_,rfl⟩
  have hb0:Below w.heap.size w W0:=by rw[←hW0];exact(below_new _ _).alloc (by simp) _
  have hz0:W0.heap.size=w.heap.size+2:=by rw[←hW0];simp
  have p0:W0.heap[w.heap.size+1]? =some (.cells #[.int .u8 0,.slice none 0 0,.slice none 0 0] 40):=by rw[←hW0];exact heap_is (by simp)
  have q0:W0.heap[w.heap.size]? =some (.cells #[.int .u8 t,.slice A la ca,.slice K n ck] 40):=by rw[←hW0,heap_old_ _ _ (by simp)];exact heap_new_ _ _
  obtain⟨x0,x1,x2⟩:=box_nd (Below.refl _ W0) q0
  have f0:=Lib.frozen_of_heap p0 0
  have f1:=Lib.frozen_of_heap p0 1
  have f2:=Lib.frozen_of_heap p0 2
  have s0:=(Lib.cell_of_heap p0 0).trans rfl
  have s1:=(Lib.cell_of_heap p0 1).trans rfl
  have s2:=(Lib.cell_of_heap p0 2).trans rfl
  by_cases hlt:i<n
  · have hz: ¬(n:Int)≤(i:Int):=by omega
    have hz2:(i:Int)< (n:Int):=by omega
    obtain⟨g,off,t1,A1,l1,k1,K1,m1,n1,rfl,e0,e1,e2,hn1⟩:=nd_cells hK3 hb0 i (by rw[hn0];exact hlt)
    have hget:ks.getD i (.mk 0 [] [])=ks[i]'(by rw[hn0];exact hlt):=by rw[List.getD_eq_getElem?_getD,List.getElem?_eq_getElem (by rw[hn0];exact hlt)];rfl
    obtain⟨r0,r1,r2,hB⟩:=res3 (y0:=.int .u8 t1) (y1:=.slice A1 l1 k1) (y2:=.slice K1 m1 n1) (Nat.le_succ _) hb0 p0
    have hn2:NdC (fun g=>B g∧g<w.heap.size) w ks[i] (.int .u8 t1) (.slice A1 l1 k1) (.slice K1 m1 n1):=by
      obtain⟨g',off',cs,e,_,hcell,c0,c1,c2,rfl,hh⟩:=hK3.at i (by rw[hn0];exact hlt)
      cases e
      have j0:=hcell 0 _ rfl
      have j1:=hcell 1 _ rfl
      have j2:=hcell 2 _ rfl
      rw[show ndE.sz=3 from rfl] at j0 j1 j2
      rw[Nat.add_zero] at j0
      have k0:=cell_on hb0 j0
      have k1':=cell_on hb0 j1
      have k2:=cell_on hb0 j2
      rw[e0] at k0
      rw[e1] at k1'
      rw[e2] at k2
      cases k0;cases k1';cases k2
      exact NdC.bound _ _ _ _ hh
    have hn3:=res3_nd (b:=w.heap.size+1) (y0:=.int .u8 t1) (y1:=.slice A1 l1 k1) (y2:=.slice K1 m1 n1) (fun g hg=>by have:=hg.2;omega) (NdC.stays (stays_below hb0 _) _ _ _ _ hn2)
    have HE:=Lib.hid (And.intro hB (NdC.mono (B':=B) (fun _ hg=>hg.1) _ _ _ _ hn3))
    rw[hget]
    clear hB hn1 hn2 hn3 hb0 p0 q0 hK3 hA3 hn hz0 hkf hget
    go_enter Tryz.func52,Tryz.ntmps52
    go_wp2_with fail
    refine bodyPost_ret (v:=.agg #[.int .u8 t1,.slice A1 l1 k1,.slice K1 m1 n1]) ?_ rfl ⟨HE.out.1,_,_,_,_,_,_,_,rfl,HE.out.2⟩
    simp[results,Tryz.results52,go_sem,r0,r1,r2]
  · have hz:(n:Int)≤(i:Int):=by omega
    have hget:ks.getD i (.mk 0 [] [])=.mk 0 [] []:=by rw[List.getD_eq_getElem?_getD,List.getElem?_eq_none (by omega)];rfl
    obtain⟨r0,r1,r2,hB⟩:=res3 (y0:=.int .u8 0) (y1:=.slice none 0 0) (y2:=.slice none 0 0) (Nat.le_succ _) hb0 p0
    have HE:=Lib.hid hB
    rw[hget]
    clear hB hb0 p0 q0 hK3 hA3 hn hz0 hkf hget hn0
    go_enter Tryz.func52,Tryz.ntmps52
    go_wp2_with fail
    refine bodyPost_ret (v:=.agg #[.int .u8 0,.slice none 0 0,.slice none 0 0]) ?_ rfl ⟨HE.out,_,_,_,_,_,_,_,rfl,ndC_leaf (by omega) (Nat.le_refl _) (Nat.zero_le _) (Bys.nil_ _ _) (fun h=>absurd h (by omega))⟩
    simp[results,Tryz.results52,go_sem,r0,r1,r2]
theorem readL_ne {rec:Nat→RR}{ys:List Int}(hbad: ∀next a e,rec next=.bad a e→e≠0): ∀(f next:Nat) (r:RK) (a e:Int),readL rec ys f next r=.bad a e→e≠0
 |0,next,r,a,e,h=>by unfold readL at h;cases h
 |f+1,next,r,a,e,h=>by
  unfold readL at h
  by_cases hlt:next<ys.length
  ·rw[if_pos hlt] at h
   cases hr:rec next with
   |bad a' e'=>rw[hr] at h;cases h;exact hbad _ _ _ hr
   |ok n nx=>rw[hr] at h;exact readL_ne hbad f nx _ a e h
  ·rw[if_neg hlt] at h;cases h
theorem readF_ne: ∀(d outer:Nat) (xs:List Int) (at_:Nat) (a e:Int),readF d outer xs at_=.bad a e→e≠0
 |0,outer,xs,at_,a,e,h=>by unfold readF at h;cases h;decide
 |d+1,outer,xs,at_,a,e,h=>by
  unfold readF at h
  simp only at h
  split at h
  ·rename_i h0;cases h;exact h0
  ·split at h
   ·rename_i h0;cases h;exact h0
   ·split at h
    ·cases h
    ·split at h
     ·rename_i hr;cases h;exact readL_ne (fun next a e h=>readF_ne d (outer+1) _ next a e h) _ _ _ _ _ hr
     ·split at h
      ·cases h;decide
      ·cases h
theorem readAll_ne {xs:List Int}{a e:Int}(h:readAllF xs=.bad a e):e≠0:=by
 unfold readAllF at h
 cases hr:readF 33 0 xs 0 with
 |bad a' e'=>rw[hr] at h;cases h;exact readF_ne _ _ _ _ _ _ hr
 |ok m k=>
  rw[hr] at h
  simp only at h
  split at h
  ·cases h;decide
  ·cases h
theorem eql_nil {P:Program}(w:World)(t e:TypeId)(a:Option Addr)(l c:Nat)(h:P.underlying t=some (.slice e)):(binOp .eql t (.slice a l c) (.slice none 0 0)).run P w=.ok (.bool a.isNone) w:=by
 simp only[binOp]
 simp[run_equal_slice_nil w t e a l c h]
end Go.Proofs.YtconbejjagcnkaaGreatDoor.nmc
