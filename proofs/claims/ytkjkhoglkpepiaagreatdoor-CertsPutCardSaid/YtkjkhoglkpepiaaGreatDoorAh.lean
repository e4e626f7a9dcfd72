/- The library's Grow (of nothing) and Concat, of lists of node The program's extension: the node of one. -/
import Derived.Test.YtkjkhoglkpepiaaGreatDoorAd
import Derived.Lib.AppendZeros
import Derived.Deep.RegionHeld3
set_option maxRecDepth 100000
set_option maxHeartbeats 8000000
set_option linter.unusedVariables false
set_option linter.unusedSimpArgs false
namespace Go.Proofs.YtkjkhoglkpepiaaGreatDoor.nmc
open Go.RowKit tlvc tlvd ndc txc txm intc intm
theorem growNil_any (Y:Nat→Prop)(n:Nat)(w:World)(hn:n≤100000):
 Calls Tryz.prog 189 #[.slice none 0 0,.int .i64 n] w fun e w'=>Below w.heap.size w w'∧∃A c,e=.returned (.slice A 0 c)∧GRow ndE 43 w.heap.size Y w' (.slice A 0 c) []:=by
 obtain⟨i0,hi,hz0,hz1,hz2⟩:=info_parts ndc.Tryz.infoNode
 have hneg: ¬(n:Int)<0:=by omega
 have h00:wrap64 ((0:Int) - 0)=0:=by unfold wrap64;omega
 have h01:wrap64 ((n:Int) - 0)=n:=by unfold wrap64;omega
 rcases Nat.eq_zero_or_pos n with h0 |h0
 ·subst h0
  clear hneg h01
  go_enter Tryz.func189,Tryz.ntmps189
  go_wp2
  go_ret
  exact⟨br_ _ _,none,0,rfl,GRow.nil⟩
 ·have hpos:(0:Int)< (n:Int):=by omega
  have hrun:=Lib.run_append_nil_zeros (P:=Tryz.prog) w 41 3 41 43 i0 _ .i64 .i64 Tryz.underlying41 Tryz.underlying3 hi hz0 n h0 (by rw[hz1];decide) (by omega) (by rw[hz2];omega)
  have hge:=grownCap_ge w n 0 43
  have hle:=grownCap_le_maxLen w n 0 43 (by unfold maxLen;omega)
  have hown:(w.drew.alloc (.cells (Builtin.zeroCells (Value.agg #[.int .u8 0,.slice none 0 0,.slice none 0 0]).cells n++Builtin.zeroCells (Value.agg #[.int .u8 0,.slice none 0 0,.slice none 0 0]).cells (grownCap w n 0 43 - n)) 43)).ownsRow w.heap.size 43 3 (.slice (some ⟨w.heap.size,0,none⟩) 0 (grownCap w n 0 43)) 0 []:=
   World.ownsRow_made w.drew _ _ (lr_ _) hle (by
    rw[Array.size_append]
    have hz: ∀k,(Builtin.zeroCells (Value.agg #[.int .u8 0,.slice none 0 0,.slice none 0 0]).cells k).size=k*3:=fun k=>by simp[Builtin.zeroCells,Value.cells]
    rw[hz,hz]
    omega)
  have hb:Below w.heap.size w (w.drew.alloc (.cells (Builtin.zeroCells (Value.agg #[.int .u8 0,.slice none 0 0,.slice none 0 0]).cells n++Builtin.zeroCells (Value.agg #[.int .u8 0,.slice none 0 0,.slice none 0 0]).cells (grownCap w n 0 43 - n)) 43)):=((br_ w.heap.size w).drew).alloc (lr_ _) _
  obtain⟨cp,hcp⟩:=nm_ (grownCap w n 0 43)
  rw[hcp] at hrun hown hb hle hge
  obtain⟨W2,hW2⟩:=nm_ (w.drew.alloc (.cells (Builtin.zeroCells (Value.agg #[.int .u8 0,.slice none 0 0,.slice none 0 0]).cells n++Builtin.zeroCells (Value.agg #[.int .u8 0,.slice none 0 0,.slice none 0 0]).cells (cp - n)) 43))
  rw[hW2] at hrun hown hb
  have h9:cp≤9223372036854775807:=by unfold maxLen at hle;omega
  have HE:=hd_ (ai_ hb hown)
  clear hb hown hW2 hcp hle hge
  go_enter Tryz.func189,Tryz.ntmps189
  go_wp2_with (at_builtin;go_loud (refine Lib.wpList_append_run _ rfl (.tmp 20) (.tmp 21) 41 3 rfl _ _ rfl rfl _ _ hrun ?_))
  clear hrun
  go_wp2
  go_ret
  exact⟨HE.out.1,_,cp,rfl,[],HE.out.2,rfl⟩
theorem nn_add (a b:Nat): ¬((a:Int)+ (b:Int))<0:=by omega
theorem wrap_nn (a b:Nat)(h:a+b≤100000):wrap64 ((a:Int)+ (b:Int))=(a:Int)+ (b:Int):=by unfold wrap64;omega
theorem flat_take {α:Type}(LL:List (List α)){i:Nat}(hi:i<LL.length):(LL.take (i+1)).flatten=(LL.take i).flatten++LL[i]:=by
 rw[List.take_succ_eq_append_getElem hi,List.flatten_append,List.flatten_singleton]
theorem flat_le {α:Type}(LL:List (List α))(i:Nat):((LL.take i).flatten).length≤LL.flatten.length:=by
 conv=>rhs;rw[←List.take_append_drop i LL,List.flatten_append,List.length_append]
 omega
theorem concat_any (S:Nat→Prop)(A:Option Addr)(n c:Nat)(LL:List (List Nd))(w:World)(hS: ∀g,w.heap.size≤g→S g)(hl:LL.length=n)(hL:Lst (lsE ndE) S w A LL)(hc:n≤c)(hm:c≤maxLen)(hn:n≤1000)(hf:LL.flatten.length≤1000):
 Calls Tryz.prog 141 #[.slice A n c] w (LVal ndE S w LL.flatten):=by
 have h9:c≤9223372036854775807:=by unfold maxLen at hm;omega
 have hel: ∀(i:Nat) (hi:i<LL.length) (wx:World),Below w.heap.size w wx→∃g off B k,A=some ⟨g,off,none⟩∧wx.cell? ⟨g,off+i,none⟩=some (.slice B (LL[i]).length k)∧(LL[i]).length≤k∧k≤maxLen∧Lst ndE (fun g=>S g∧g<w.heap.size) wx B LL[i]:=fun i hi wx hb=>by
  obtain⟨g,off,cs,e,_,hcell,c0,rfl,B,k,rfl,h1,h2,h3⟩:=hL.at i hi
  have e0:=hcell 0 _ rfl
  rw[show(lsE ndE).sz=1 from rfl,Nat.mul_one,Nat.add_zero] at e0
  exact⟨g,off,B,k,e,cell_on hb e0,h1,h2,h3.boundS.below hb⟩
 obtain⟨T,hT⟩: ∃T:Nat→Nat,∀i,((LL.take i).flatten).length=T i:=⟨fun i=>((LL.take i).flatten).length,fun _=>rfl⟩
 have hT0:T 0=0:=by rw[←hT 0];rfl
 have hTs: ∀i (hi:i<LL.length),T (i+1)=T i+ (LL[i]).length:=fun i hi=>by rw[←hT,←hT,flat_take LL hi,List.length_append]
 have hTn:T n=LL.flatten.length:=by rw[←hT,List.take_of_length_le (by omega)]
 have hTl: ∀i,T i≤1000:=fun i=>by rw[←hT];exact Nat.le_trans (flat_le LL i) hf
 have hgr:=fun(wx:World)=>growNil_any S (T n) wx (by have:=hTl n;omega)
 have HL:=hd_ (ai_ hl (ai_ hel (ai_ hS (ai_ hT (ai_ hTs (ai_ hTn hTl))))))
 have HG:=hd_ hgr
 have HN:=hd_ hn
 have hT0':((T 0:Nat):Int)=0:=by rw[hT0];rfl
 clear hl hL hel hS hT hTs hTn hTl hgr hn hf hm
 go_enter Tryz.func141,Tryz.ntmps141
 go_wp2_with fail
 go_loopg [3,11] (n+1) (fun gk s3 s11 wx=>∃(i:Nat),s3=.int .i64 (T i:Nat)∧s11=.int .i64 i∧i≤n∧n - i<gk∧wx=w)
 case atStart=>exact⟨0,by rw[hT0'],rfl,by omega,by omega,rfl⟩
 case round=>
  obtain⟨i,rfl,rfl,hi,hgk,rfl⟩:=hrel
  by_cases hlt:i<n
  ·have hltz:(i:Int)< (n:Int):=by omega
   obtain⟨gk',rfl⟩: ∃g',gk=g'+1:=⟨gk - 1,by omega⟩
   have HNX:=hd_ (ai_ (show i+1≤n from hlt) (show n - (i+1)<gk' by omega))
   have hix:i<LL.length:=by rw[HL.out.1];exact hlt
   obtain⟨g,off,B,k,rfl,e0,_⟩:=HL.out.2.1 i hix _ (br_ _ _)
   have hs:=HL.out.2.2.2.2.1 i hix
   have hl1:=HL.out.2.2.2.2.2.2 (i+1)
   obtain⟨li,hli⟩:=nm_ ((LL[i]).length)
   rw[hli] at e0 hs
   have hw:=wrap_nn (T i) li (by omega)
   have hng:=nn_add (T i) li
   have HS:=hd_ (show((T i:Nat):Int)+ (li:Int)=((T (i+1):Nat):Int) by omega)
   clear hs hl1 hgk hli
   go_wp2
   go_roundg gk'
   case measure=>omega
   case rel=>exact⟨i+1,by rw[HS.out],by go_num,HNX.out.1,HNX.out.2,rfl⟩
  ·obtain rfl:n=i:=by omega
   have hltz: ¬(n:Int)< (n:Int):=by omega
   clear hgk
   go_wp2_with fail
   refine(HG.out _).mono ?_
   rintro e w1 ⟨hb1,A1,c1,rfl,hrow⟩
   have HR:=hd_ (ai_ hb1 hrow)
   clear hb1 hrow HG
   go_wp2_with fail
   go_loopg [6,27] (n+1) (fun gk s6 s27 wx=>∃(i:Nat) (Av:Option Addr) (cv:Nat),s6=.slice Av (T i) cv∧s27=.int .i64 i∧i≤n∧n - i<gk∧Hid (Below wr.heap.size wr wx∧GRow ndE 43 wr.heap.size S wx (.slice Av (T i) cv) ((LL.take i).flatten)))
   case atStart=>exact⟨0,A1,c1,by first |rfl | (rw[show T 0=0 by omega]),rfl,by omega,by omega,hd_ ⟨HR.out.1,by rw[show T 0=0 by omega];exact HR.out.2⟩⟩
   case round=>
    obtain⟨i,Av,cv,rfl,rfl,hi2,hgk,HI⟩:=hrel
    by_cases hlt2:i<n
    ·have hltz2:(i:Int)< (n:Int):=by omega
     obtain⟨gk',rfl⟩: ∃g',gk=g'+1:=⟨gk - 1,by omega⟩
     have HNX:=hd_ (ai_ (show i+1≤n from hlt2) (show n - (i+1)<gk' by omega))
     have hix:i<LL.length:=by rw[HL.out.1];exact hlt2
     obtain⟨g,off,B,k,rfl,e0,k1,k2,k3⟩:=HL.out.2.1 i hix _ HI.out.1
     have hs:=HL.out.2.2.2.2.1 i hix
     have hl1:=HL.out.2.2.2.2.2.2 (i+1)
     have hTi:=HL.out.2.2.2.1 i
     have hown:=HI.out.2.lt
     obtain⟨v',w',hrun,hrow,hgr⟩:=HI.out.2.apps (ys:=LL[i]) (A:=B) (c:=k) Tryz.infN HL.out.2.2.1 41 (k3.on (lr_ _) (fun _ _ _=>rfl) (fun g hg hl=>⟨hg.1,hl,fun e=>by have:=(hown g e.symm).1;omega⟩)) (by rw[hTi];omega) (by rw[hTi];unfold maxLen;omega) HI.out.1.size
     obtain⟨A7,c7,rfl,q1,q2⟩:=hrow.shape
     have hT1:((LL.take i).flatten++LL[i]).length=T (i+1):=by rw[←flat_take LL hix];exact HL.out.2.2.2.1 (i+1)
     rw[hT1,←flat_take LL hix] at hrow
     rw[hT1] at hrun
     have hb7:=HI.out.1.grown hgr HI.out.1.size (fun j hj=>(hown j hj).1)
     have HI7:=hd_ (ai_ hb7 hrow)
     obtain⟨li,hli⟩:=nm_ ((LL[i]).length)
     rw[hli] at e0 hrun
     clear hb7 hrow hgr hs hl1 hgk hli k1 k2 k3 hTi hown q1 q2 hT1
     go_wp2_with (at_builtin;refine wpl_append rfl (.tmp 31) (.tmp 32) 41 rfl _ _ _ rfl rfl hrun ?_)
     clear hrun
     go_wp2
     go_roundg gk'
     case measure=>omega
     case rel=>exact⟨i+1,A7,c7,rfl,by go_num,HNX.out.1,HNX.out.2,HI7⟩
    ·obtain rfl:n=i:=by omega
     obtain⟨A2,c2,e2,h1,h2,hLn⟩:=HI.out.2.lst HL.out.2.2.1
     rw[List.take_of_length_le (by rw[HL.out.1];exact lr_ _)] at e2 h1 hLn
     simp only[Value.slice.injEq] at e2
     obtain⟨rfl,hTe,rfl⟩:=e2
     have HF:=hd_ (ai_ HI.out.1 (ai_ h1 (ai_ h2 (ai_ hLn hTe))))
     clear h1 h2 hLn hgk hTe
     go_wp2
     go_ret
     exact⟨HF.out.1,Av,cv,by rw[HF.out.2.2.2.2];rfl,HF.out.2.1,HF.out.2.2.1,HF.out.2.2.2.1⟩
theorem joined_any (S:Nat→Prop)(t:Int)(A:Option Addr)(n c:Nat)(LL:List (List Nd))(w:World)(ht:0≤t∧t≤255)(hS: ∀g,w.heap.size≤g→S g)(hl:LL.length=n)(hL:Lst (lsE ndE) S w A LL)(hc:n≤c)(hm:c≤maxLen)(hn:n≤1000)(hf:LL.flatten.length≤1000):
 Calls Tryz.prog 58 #[.int .u8 t,.slice A n c] w (NVal S w (.mk t [] LL.flatten)):=by
 obtain⟨W0,hW0⟩:=nm_ (w.alloc (.cells #[.int .u8 0,.slice none 0 0,.slice none 0 0] 43))
 have hb0:Below w.heap.size w W0:=by rw[←hW0];exact below_new _ _
 have p0:W0.heap[w.heap.size]? =some (.cells #[.int .u8 0,.slice none 0 0,.slice none 0 0] 43):=by rw[←hW0];exact heap_new_ _ _
 have hz0:W0.heap.size=w.heap.size+1:=by rw[←hW0];simp
 have HC:=hd_ (concat_any (fun g=>S g∧g≠w.heap.size) A n c LL W0 (fun g hg=>⟨hS g (by omega),by omega⟩) hl (hL.on hb0.size (fun g _ hg=>hb0.block g hg) (fun g hg hlt=>⟨hg,by omega⟩)) hc hm hn hf)
 have HB:=hd_ (ai_ hb0 (ai_ p0 (ai_ hz0 ht)))
 obtain⟨ks,hks⟩:=nm_ (LL.flatten)
 rw[hks] at HC⊢
 clear hb0 p0 hz0 hks hS hl hL hc hm hn hf ht
 go_enter Tryz.func58,Tryz.ntmps58
 go_wp2_with fail
 refine HC.out.mono ?_
 rintro e w1 ⟨hb1,A1,c1,rfl,h1,h2,h3⟩
 have hz:=HB.out.2.2.1
 have p1:=(hb1.block w.heap.size (by omega)).trans HB.out.2.1
 have hB1:=below_then HB.out.1 hb1 (lr_ _)
 have hnd:NdC (fun g=>S g∧g≠w.heap.size) w1 (.mk t [] ks) (.int .u8 t) (.slice none 0 0) (.slice A1 ks.length c1):=ndC_of HB.out.2.2.2 h1 h2 h3
 obtain⟨r0,r1,r2,hB⟩:=res3 (y0:=.int .u8 t) (y1:=.slice none 0 0) (y2:=.slice A1 ks.length c1) (lr_ _) hB1 p1
 have hn2:=res3_nd (b:=w.heap.size) (y0:=.int .u8 t) (y1:=.slice none 0 0) (y2:=.slice A1 ks.length c1) (fun g hg=>hg.2) hnd
 have f0:=fh_ p1 0
 have f1:=fh_ p1 1
 have f2:=fh_ p1 2
 have s0:=(ch_ p1 0).trans rfl
 have s1:=(ch_ p1 1).trans rfl
 have s2:=(ch_ p1 2).trans rfl
 have HE:=hd_ (ai_ hB (NdC.mono (B':=S) (fun g hg=>hg.1) _ _ _ _ hn2))
 obtain⟨len,hlen⟩:=nm_ (ks.length)
 rw[hlen] at r0 r1 r2 HE⊢
 clear hB hn2 hnd p1 hB1 h1 h2 h3 hb1 HC HB hz hlen
 go_wp2_with fail
 refine bodyPost_ret (v:=.agg #[.int .u8 t,.slice none 0 0,.slice A1 len c1]) ?_ rfl ⟨HE.out.1,_,_,_,_,_,_,_,rfl,HE.out.2⟩
 simp[results,Tryz.results58,go_sem,r0,r1,r2]
end Go.Proofs.YtkjkhoglkpepiaaGreatDoor.nmc
set_option maxRecDepth 100000
set_option maxHeartbeats 8000000
set_option linter.unusedVariables false
set_option linter.unusedSimpArgs false
namespace Go.Proofs.YtkjkhoglkpepiaaGreatDoor.nmc
open Go.RowKit tlvc tlvd ndc txc txm intc intm
theorem lst_all {α:Type}{E:El α}{S:Nat→Prop}{W:World}{g:Nat}{arr:Array Value}{cs:List Value}{xs:List α}{T:TypeId}{fr:Nat × Nat}(hp:W.heap[g]? =some (.cells arr T fr))(hc:arr.toList=cs)(hg:S g)(h:All E S W xs cs):Lst E S W (some ⟨g,0,none⟩) xs:=fun _=>⟨g,0,rfl,(Array.getElem?_eq_some_iff.1 hp).1,hg,fun i hi=>by
 obtain⟨a,h1,h2⟩:=h.at i hi
 refine⟨a,fun j u hu=>?_,h1⟩
 rw[Nat.zero_add,ch_ hp,←Array.getElem?_toList,hc]
 exact h2 j u hu⟩
theorem all_two {α:Type}{E:El α}{S:Nat→Prop}{W:World}{x y:List α}{a b:Value}(h1:LsC E S W x a)(h2:LsC E S W y b):All (lsE E) S W [x,y] [a,b]:=⟨[a],[b],rfl,⟨a,rfl,h1⟩,[b],[],rfl,⟨b,rfl,h2⟩,rfl⟩
theorem all_three {α:Type}{E:El α}{S:Nat→Prop}{W:World}{x y z:List α}{a b c:Value}(h1:LsC E S W x a)(h2:LsC E S W y b)(h3:LsC E S W z c):All (lsE E) S W [x,y,z] [a,b,c]:=⟨[a],[b,c],rfl,⟨a,rfl,h1⟩,all_two h2 h3⟩
theorem all_one {α:Type}{E:El α}{S:Nat→Prop}{W:World}{x:List α}{a:Value}(h1:LsC E S W x a):All (lsE E) S W [x] [a]:=⟨[a],[],rfl,⟨a,rfl,h1⟩,rfl⟩
theorem InC.ins {S:Nat→Prop}{w:World}{xs:List Int}{A:Option Addr}{l c:Nat}(h:InC S w xs (.slice A l c)):Ins w A l xs∧l≤c∧c≤maxLen∧(0<l→∀g off sp,A=some ⟨g,off,sp⟩→S g):=by
 obtain⟨A',l',c',e,h1,h2,h3,h4⟩:=h
 simp only[Value.slice.injEq] at e
 obtain⟨rfl,rfl,rfl⟩:=e
 exact⟨h3,h1,h2,h4⟩
theorem ByC.bys {S:Nat→Prop}{w:World}{xs:List Int}{A:Option Addr}{l c:Nat}(h:ByC S w xs (.slice A l c)):Bys w A l xs∧l≤c∧c≤maxLen∧(0<l→∀g off sp,A=some ⟨g,off,sp⟩→S g):=by
 obtain⟨A',l',c',e,h1,h2,h3,h4⟩:=h
 simp only[Value.slice.injEq] at e
 obtain⟨rfl,rfl,rfl⟩:=e
 exact⟨h3,h1,h2,h4⟩
theorem OdC.shape {S:Nat→Prop}{w:World}{o:Od}{c0 c1 c2:Value}(h:OdC S w o c0 c1 c2): ∃A l k B m n,c0=.slice A l k∧c1=.bool o.crit∧c2=.slice B m n:=by
 obtain⟨⟨A,l,k,rfl,_⟩,rfl,B,m,n,rfl,_⟩:=h
 exact⟨A,l,k,B,m,n,rfl,rfl,rfl⟩
theorem extension_any (B:Nat→Prop)(o:Od)(c0 c1 c2:Value)(w:World)(ho:OdC B w o c0 c1 c2)(hlen:o.body.length≤140737488351232):
 Calls Tryz.prog 57 #[.agg #[c0,c1,c2]] w (NVal (fun g=>w.heap.size≤g) w (extF o)):=by
 have mixed:Tryz.prog.follows Departure.mixedOrders=true:=by kernel_rfl
 obtain⟨A1,l1,k1,A2,l2,k2,rfl,rfl,rfl⟩:=ho.shape
 obtain⟨b1,hb1⟩:=nm_ (o.crit)
 rw[hb1] at ho⊢
 obtain⟨W0,hW0⟩:=nm_ ((w.alloc (.cells #[.slice A1 l1 k1,.bool b1,.slice A2 l2 k2] 102)).alloc (.cells #[.int .u8 0,.slice none 0 0,.slice none 0 0] 43))
 have hb0:Below w.heap.size w W0:=by rw[←hW0];exact(below_new _ _).alloc (by simp) _
 have hz0:W0.heap.size=w.heap.size+2:=by rw[←hW0];simp
 have p0:W0.heap[w.heap.size+1]? =some (.cells #[.int .u8 0,.slice none 0 0,.slice none 0 0] 43):=by rw[←hW0];exact heap_is (by simp)
 have q0:W0.heap[w.heap.size]? =some (.cells #[.slice A1 l1 k1,.bool b1,.slice A2 l2 k2] 102):=by rw[←hW0,heap_old_ _ _ (by simp)];exact heap_new_ _ _
 obtain⟨x0,x1,x2⟩:=box_nd (br_ _ W0) q0
 obtain⟨i1,i2,i3,_⟩:=InC.ins (ho.1)
 obtain⟨j1,j2,j3,_⟩:=ByC.bys (ho.2.2)
 have hfit:=j1.1
 have HC:=hd_ (bclone_any A2 l2 k2 o.body W0 (j1.below hb0) j2 j3 (by omega))
 have HO:=hd_ (fun W (hW:Below W0.heap.size W0 W)=>objectNode_any A1 l1 k1 o.oid W (i1.below (below_then hb0 hW (lr_ _))) i2 i3)
 have HX:=hd_ (fun W (hW:Below W0.heap.size W0 W)=>box_nd hW q0)
 have HB:=hd_ (ai_ hb0 (ai_ p0 (ai_ hz0 (ai_ j1.2.1 hfit))))
 have hext:extF o=.mk 48 [] ([onlyL true (oidN o.oid),onlyL b1 truthN,onlyL true (.mk 4 o.body [])].flatten):=by
  unfold extF
  rw[hb1]
  simp[List.flatten]
 rw[hext]
 have HL:=hd_ (show o.body.length=l2 from hfit)
 clear hb0 p0 hz0 q0 i1 i2 i3 j1 j2 j3 ho hlen hb1 hfit hext
 go_enter Tryz.func57,Tryz.ntmps57
 go_wp2_with fail
 refine HC.out.mono ?_
 rintro e w1 ⟨A3,c3,rfl,hby,hc3,hb1,hfar⟩
 obtain⟨W2,hW2⟩:=nm_ (w1.alloc (.cells #[.int .u8 4,.slice A3 l2 c3,.slice none 0 0] 43))
 have hb12:Below w1.heap.size w1 W2:=by rw[←hW2];exact below_new _ _
 have q2:W2.heap[w1.heap.size]? =some (.cells #[.int .u8 4,.slice A3 l2 c3,.slice none 0 0] 43):=by rw[←hW2];exact heap_new_ _ _
 have hb2:=below_then hb1 hb12 (lr_ _)
 have hz:=HB.out.2.2.1
 have hz1:=hb1.size
 have hleaf:NdC (fun g=>w.heap.size+2≤g) W2 (.mk 4 o.body []) (.int .u8 4) (.slice A3 l2 c3) (.slice none 0 0):=ndC_leaf (by omega) hc3.1 hc3.2 (hby.below hb12) (fun _ g off sp e=>by have:=hfar g off sp e;omega)
 have HN:=hd_ hleaf
 have HY:=hd_ (fun W (hW:Below W2.heap.size W2 W)=>box_nd hW q2)
 have HB2:=hd_ (ai_ hb2 (ai_ (show w.heap.size+2≤w1.heap.size by omega) (show w.heap.size+2≤W2.heap.size by have:=hb12.size;omega)))
 obtain⟨y0,y1,y2⟩:=HY.out W2 (br_ _ _)
 clear x0 x1 x2
 obtain⟨x0,x1,x2⟩:=HX.out W2 hb2
 have hS2: ∀g,W2.heap.size≤g→w.heap.size+2≤g:=fun g hg=>Nat.le_trans HB2.out.2.2 hg
 have HS2:=hd_ hS2
 clear hby hc3 hb1 hfar hb12 q2 hb2 hleaf hz hz1 HC hS2
 have HW2:=hd_ hW2
 clear hW2
 go_wp2_with fail
 try dsimp only
 rw[HW2.out]
 try dsimp only
 refine wp_region_noPanic ?_
 refine wp_region_held_drew (S:=fun wx:World=>wx.cell? ⟨w.heap.size,0,none⟩=some (.slice A1 l1 k1)∧wx.cell? ⟨w.heap.size,1,none⟩=some (.bool b1)∧wx.cell? ⟨w1.heap.size,0,none⟩=some (.int .u8 4)∧wx.cell? ⟨w1.heap.size,1,none⟩=some (.slice A3 l2 c3)∧wx.cell? ⟨w1.heap.size,2,none⟩=some (.slice none 0 0)) mixed ⟨x0,x1,y0,y1,y2⟩ (fun hHeld=>?_)
 have hbd:=below_drew W2
 obtain⟨wd,hwd⟩:=nm_ (W2.drew)
 rw[hwd] at hHeld hbd⊢
 clear hwd
 refine tk_ (i:=0) (z:=?_)
 refine tk_ (i:=1) (z:=?_)
 refine tk_ (i:=4) (z:=?_)
 refine tk_ (i:=5) (z:=?_)
 refine tk_ (i:=8) (z:=?_)
 refine on_ (i:=2) (z:=fun KK hKK=>?_)
 go_simp
 refine(HO.out _ (below_then HB2.out.1 hbd (lr_ _))).mono ?_
 rintro e w3 ⟨hb3,t3,B3,m3,n3,K3,u3,v3,rfl,hn3⟩
 dsimp only
 have hn3:=NdC.mono (B':=fun g=>w.heap.size+2≤g) (fun g hg=>HS2.out g (Nat.le_trans hbd.size hg)) _ _ _ _ hn3
 have hb3:=below_then hbd hb3 (lr_ _)
 refine hKK.out _ _ ⟨(HX.out _ (below_then HB2.out.1 hb3 (lr_ _))).1,(HX.out _ (below_then HB2.out.1 hb3 (lr_ _))).2.1,(HY.out _ hb3).1,(HY.out _ hb3).2.1,(HY.out _ hb3).2.2⟩ (fun hHeld=>?_)
 clear hKK KK
 try simp only[Act.put,qa_,qb_,qc_]
 refine on_ (i:=3) (z:=fun KK hKK=>?_)
 go_simp
 refine(only_any (fun g=>w.heap.size+2≤g) true _ _ _ _ w3 (fun g hg=>HS2.out g (Nat.le_trans hb3.size hg)) hn3).mono ?_
 rintro e w4 ⟨hb4,A4,c4,rfl,k41,k42,hl4⟩
 dsimp only
 have hb4:=below_then hb3 hb4 (lr_ _)
 refine hKK.out _ _ ⟨(HX.out _ (below_then HB2.out.1 hb4 (lr_ _))).1,(HX.out _ (below_then HB2.out.1 hb4 (lr_ _))).2.1,(HY.out _ hb4).1,(HY.out _ hb4).2.1,(HY.out _ hb4).2.2⟩ (fun hHeld=>?_)
 clear hKK KK
 try simp only[Act.put,qa_,qb_,qc_]
 refine on_ (i:=6) (z:=fun KK hKK=>?_)
 go_simp
 refine(truth_any w4).mono ?_
 rintro e w5 ⟨hb5,t5,B5,m5,n5,K5,u5,v5,rfl,hn5⟩
 dsimp only
 have hn5:=NdC.mono (B':=fun g=>w.heap.size+2≤g) (fun g hg=>HS2.out g (Nat.le_trans hb4.size hg)) _ _ _ _ hn5
 have hb45:=hb5
 have hb5:=below_then hb4 hb5 (lr_ _)
 refine hKK.out _ _ ⟨(HX.out _ (below_then HB2.out.1 hb5 (lr_ _))).1,(HX.out _ (below_then HB2.out.1 hb5 (lr_ _))).2.1,(HY.out _ hb5).1,(HY.out _ hb5).2.1,(HY.out _ hb5).2.2⟩ (fun hHeld=>?_)
 clear hKK KK
 try simp only[Act.put,qa_,qb_,qc_]
 refine on_ (i:=7) (z:=fun KK hKK=>?_)
 go_simp
 refine(only_any (fun g=>w.heap.size+2≤g) b1 _ _ _ _ w5 (fun g hg=>HS2.out g (Nat.le_trans hb5.size hg)) hn5).mono ?_
 rintro e w6 ⟨hb6,A6,c6,rfl,k61,k62,hl6⟩
 dsimp only
 have hb56:=hb6
 have hb6:=below_then hb5 hb6 (lr_ _)
 refine hKK.out _ _ ⟨(HX.out _ (below_then HB2.out.1 hb6 (lr_ _))).1,(HX.out _ (below_then HB2.out.1 hb6 (lr_ _))).2.1,(HY.out _ hb6).1,(HY.out _ hb6).2.1,(HY.out _ hb6).2.2⟩ (fun hHeld=>?_)
 clear hKK KK
 try simp only[Act.put,qa_,qb_,qc_]
 refine on_ (i:=9) (z:=fun KK hKK=>?_)
 go_simp
 refine(only_any (fun g=>w.heap.size+2≤g) true _ _ _ _ w6 (fun g hg=>HS2.out g (Nat.le_trans hb6.size hg)) (NdC.below hb6 _ _ _ _ HN.out)).mono ?_
 rintro e w7 ⟨hb7,A7,c7,rfl,k71,k72,hl7⟩
 dsimp only
 have hb67:=hb7
 have hb7:=below_then hb6 hb7 (lr_ _)
 refine hKK.out _ _ ⟨(HX.out _ (below_then HB2.out.1 hb7 (lr_ _))).1,(HX.out _ (below_then HB2.out.1 hb7 (lr_ _))).2.1,(HY.out _ hb7).1,(HY.out _ hb7).2.1,(HY.out _ hb7).2.2⟩ (fun hHeld=>?_)
 clear hKK KK
 try simp only[Act.put,qa_,qb_,qc_]
 refine on_ (i:=10) (z:=fun KK hKK=>?_)
 go_simp
 have hb78:=below_new w7 (.cells #[.slice A4 (onlyL true (oidN o.oid)).length c4,.slice A6 (onlyL b1 truthN).length c6,.slice A7 (onlyL true (Nd.mk 4 o.body [])).length c7] 41)
 have hb8:=below_then hb7 hb78 (lr_ _)
 have hq8:=heap_new_ w7 (.cells #[.slice A4 (onlyL true (oidN o.oid)).length c4,.slice A6 (onlyL b1 truthN).length c6,.slice A7 (onlyL true (Nd.mk 4 o.body [])).length c7] 41)
 have hls:Lst (lsE ndE) (fun g=>w.heap.size+2≤g) (w7.alloc (.cells #[.slice A4 (onlyL true (oidN o.oid)).length c4,.slice A6 (onlyL b1 truthN).length c6,.slice A7 (onlyL true (Nd.mk 4 o.body [])).length c7] 41)) (some ⟨w7.heap.size,0,none⟩) [onlyL true (oidN o.oid),onlyL b1 truthN,onlyL true (.mk 4 o.body [])]:=lst_all hq8 rfl (HS2.out _ hb7.size) (all_three ⟨A4,c4,rfl,k41,k42,((hl4.below hb45).below (below_then hb56 hb67 (lr_ _))).below hb78⟩ ⟨A6,c6,rfl,k61,k62,(hl6.below hb67).below hb78⟩ ⟨A7,c7,rfl,k71,k72,hl7.below hb78⟩)
 have hlen3:([onlyL true (oidN o.oid),onlyL b1 truthN,onlyL true (Nd.mk 4 o.body [])]:List (List Nd)).flatten.length≤1000:=by
  have i1:=onlyL_len true (oidN o.oid)
  have i2:=onlyL_len b1 truthN
  have i3:=onlyL_len true (Nd.mk 4 o.body [])
  simp only[List.flatten_cons,List.flatten_nil,List.length_append,List.length_nil]
  omega
 refine hKK.out _ _ ⟨(HX.out _ (below_then HB2.out.1 hb8 (lr_ _))).1,(HX.out _ (below_then HB2.out.1 hb8 (lr_ _))).2.1,(HY.out _ hb8).1,(HY.out _ hb8).2.1,(HY.out _ hb8).2.2⟩ (fun hHeld=>?_)
 clear hKK KK
 try simp only[Act.put,qa_,qb_,qc_]
 refine on_ (i:=11) (z:=fun KK hKK=>?_)
 go_simp
 refine(joined_any (fun g=>w.heap.size+2≤g) 48 _ 3 3 _ _ (by omega) (fun g hg=>HS2.out g (Nat.le_trans hb8.size hg)) rfl hls (lr_ _) (by unfold maxLen;decide) (by decide) hlen3).mono ?_
 rintro e w9 ⟨hb9,t9,B9,m9,n9,K9,u9,v9,rfl,hn9⟩
 dsimp only
 have hb9:=below_then hb8 hb9 (lr_ _)
 refine hKK.out _ _ ⟨(HX.out _ (below_then HB2.out.1 hb9 (lr_ _))).1,(HX.out _ (below_then HB2.out.1 hb9 (lr_ _))).2.1,(HY.out _ hb9).1,(HY.out _ hb9).2.1,(HY.out _ hb9).2.2⟩ (fun hHeld=>?_)
 clear hKK KK
 try simp only[Act.put,qa_,qb_,qc_]
 have hbf:=below_then HB2.out.1 hb9 (lr_ _)
 have p9:=(hbf.block (w.heap.size+1) (by have:=HB.out.2.2.1;omega)).trans HB.out.2.1
 have hBw:=below_then HB.out.1 hbf (lr_ _)
 obtain⟨r0,r1,r2,hB⟩:=res3 (b:=w.heap.size+1) (y0:=.int .u8 t9) (y1:=.slice B9 m9 n9) (y2:=.slice K9 u9 v9) (Nat.le_succ _) hBw p9
 have hn2:=res3_nd (b:=w.heap.size+1) (y0:=.int .u8 t9) (y1:=.slice B9 m9 n9) (y2:=.slice K9 u9 v9) (fun g hg=>by omega) hn9
 have f0:=fh_ p9 0
 have f1:=fh_ p9 1
 have f2:=fh_ p9 2
 have s0:=(ch_ p9 0).trans rfl
 have s1:=(ch_ p9 1).trans rfl
 have s2:=(ch_ p9 2).trans rfl
 have HE:=hd_ (ai_ hB (NdC.mono (B':=fun g=>w.heap.size≤g) (fun g hg=>by omega) _ _ _ _ hn2))
 have hoth: ∀g,g≠w.heap.size+1→(((w9.setCell ⟨w.heap.size+1,0,none⟩ (.int .u8 t9)).setCell ⟨w.heap.size+1,1,none⟩ (.slice B9 m9 n9)).setCell ⟨w.heap.size+1,2,none⟩ (.slice K9 u9 v9)).heap[g]? =w9.heap[g]? :=fun g hg=>set3_other w9 _ _ _ _ hg
 have hne:w1.heap.size≠w.heap.size+1:=by have:=HB2.out.2.1;omega
 obtain⟨z0,z1,_⟩:=HX.out _ hbf
 obtain⟨z3,z4,z5⟩:=HY.out _ hb9
 have hcb:=ai_ ((cell_same (hoth w.heap.size (by omega))).trans z0) (ai_ ((cell_same (hoth w.heap.size (by omega))).trans z1) (ai_ ((cell_same (hoth w1.heap.size hne)).trans z3) (ai_ ((cell_same (hoth w1.heap.size hne)).trans z4) ((cell_same (hoth w1.heap.size hne)).trans z5))))
 refine on_ (i:=12) (z:=fun KK hKK=>?_)
 go_simp
 refine hKK.out _ _ hcb (fun hHeld=>?_)
 clear hKK KK
 try simp only[Act.put,qa_,qb_,qc_]
 refine wpAnyH_done (by kernel_rfl) ?_ _
 refine NoPanic.normal ?_
 clear hHeld hcb z0 z1 z3 z4 z5 s0 s1 s2 f0 f1 f2 p9 hoth hne hb3 hb4 hb5 hb6 hb7 hb8 hb9 hb45 hb56 hb67 hb78 hq8 hls hbd hbf hBw hB hn2 hn9 hn3 hn5 hl4 hl6 hl7 k41 k42 k61 k62 k71 k72 hlen3 x0 x1 x2 y0 y1 y2
 go_wp2_with fail
 refine bodyPost_ret (v:=.agg #[.int .u8 t9,.slice B9 m9 n9,.slice K9 u9 v9]) ?_ rfl ⟨HE.out.1,_,_,_,_,_,_,_,rfl,HE.out.2⟩
 simp[results,Tryz.results57,go_sem,r0,r1,r2]
end Go.Proofs.YtkjkhoglkpepiaaGreatDoor.nmc
