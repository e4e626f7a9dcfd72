/- The document's leaves of extensions: nodes of a truth, a num A list of nodes that grows node by node. The document's ext -/
import Derived.Test.YtkjkhoglkpepiaaGreatDoorAd
import Derived.Test.YtkjkhoglkpepiaaGreatDoorYd
import Derived.Test.YtkjkhoglkpepiaaGreatDoorYf
import Derived.Test.YtkjkhoglkpepiaaGreatDoorPc
set_option maxRecDepth 100000
set_option maxHeartbeats 8000000
set_option linter.unusedVariables false
set_option linter.unusedSimpArgs false
namespace Go.Proofs.YtkjkhoglkpepiaaGreatDoor.nmc
open Go.RowKit tlvc tlvd ndc txc txm intc intm
def BVal (w:World)(b:List Int)(e:Ending)(w':World):Prop:=
 Below w.heap.size w w'∧∃A c,e=.returned (.slice A b.length c)∧Bys w' A b.length b∧b.length≤c∧c≤maxLen∧∀g off sp,A=some ⟨g,off,sp⟩→w.heap.size≤g
theorem rtruth_any (b:Bool)(w:World):
 Calls Tryz.prog 79 #[.bool b] w (NVal (fun g=>w.heap.size≤g) w (.mk 1 (boolB b) [])):=by
 obtain⟨W0,hW0⟩:=nm_ (w.alloc (.cells #[.int .u8 0,.slice none 0 0,.slice none 0 0] 43))
 have hb0:Below w.heap.size w W0:=by rw[←hW0];exact below_new _ _
 have p0:W0.heap[w.heap.size]? =some (.cells #[.int .u8 0,.slice none 0 0,.slice none 0 0] 43):=by rw[←hW0];exact heap_new_ _ _
 have hz0:W0.heap.size=w.heap.size+1:=by rw[←hW0];simp
 have hput:=refPutBool_any b W0
 have HC:=hd_ hput
 have HB:=hd_ (ai_ hb0 (ai_ p0 hz0))
 obtain⟨ys,hys⟩:=nm_ (boolB b)
 rw[hys] at HC⊢
 clear hput hb0 p0 hz0 hys
 go_enter Tryz.func79,Tryz.ntmps79
 go_wp2_with fail
 refine HC.out.mono ?_
 rintro e w1 ⟨A1,c1,rfl,hh,hb1⟩
 have hz:=HB.out.2.2
 have p1:=(hb1.block w.heap.size (by omega)).trans HB.out.2.1
 have hB1:=below_then HB.out.1 hb1 (lr_ _)
 have hnd:NdC (fun g=>w.heap.size<g) w1 (.mk 1 ys []) (.int .u8 1) (.slice A1 ys.length c1) (.slice none 0 0):=ndC_leaf (by omega) hh.2.1 hh.2.2.1 hh.1 (fun hn g off sp e=>by
  obtain⟨b',off',e',hb',_⟩:=hh.1.2.2 hn
  have:=hh.2.2.2 b' off' e'
  rw[e'] at e;cases e;omega)
 obtain⟨r0,r1,r2,hB⟩:=res3 (y0:=.int .u8 1) (y1:=.slice A1 ys.length c1) (y2:=.slice none 0 0) (lr_ _) hB1 p1
 have hn2:=res3_nd (b:=w.heap.size) (y0:=.int .u8 1) (y1:=.slice A1 ys.length c1) (y2:=.slice none 0 0) (fun g hg=>by omega) hnd
 have f0:=fh_ p1 0
 have f1:=fh_ p1 1
 have f2:=fh_ p1 2
 have s0:=(ch_ p1 0).trans rfl
 have s1:=(ch_ p1 1).trans rfl
 have s2:=(ch_ p1 2).trans rfl
 have HE:=hd_ (ai_ hB (NdC.mono (B':=fun g=>w.heap.size≤g) (fun g hg=>by omega) _ _ _ _ hn2))
 clear hB hn2 hnd p1 hB1 hh hb1 HC HB hz
 go_wp2_with fail
 refine bodyPost_ret (v:=.agg #[.int .u8 1,.slice A1 ys.length c1,.slice none 0 0]) ?_ rfl ⟨HE.out.1,_,_,_,_,_,_,_,rfl,HE.out.2⟩
 simp[results,Tryz.results79,go_sem,r0,r1,r2]
theorem rint_any (n:Int)(w:World)(hn:I64 n):
 Calls Tryz.prog 34 #[.int .i64 n] w (NVal (fun g=>w.heap.size≤g) w (.mk 2 (putI n) [])):=by
 obtain⟨W0,hW0⟩:=nm_ (w.alloc (.cells #[.int .u8 0,.slice none 0 0,.slice none 0 0] 43))
 have hb0:Below w.heap.size w W0:=by rw[←hW0];exact below_new _ _
 have p0:W0.heap[w.heap.size]? =some (.cells #[.int .u8 0,.slice none 0 0,.slice none 0 0] 43):=by rw[←hW0];exact heap_new_ _ _
 have hz0:W0.heap.size=w.heap.size+1:=by rw[←hW0];simp
 have hput:=refPutInt_any n W0 hn
 have HC:=hd_ hput
 have HB:=hd_ (ai_ hb0 (ai_ p0 hz0))
 obtain⟨ys,hys⟩:=nm_ (putI n)
 rw[hys] at HC⊢
 clear hput hb0 p0 hz0 hys
 go_enter Tryz.func34,Tryz.ntmps34
 go_wp2_with fail
 refine HC.out.mono ?_
 rintro e w1 ⟨A1,c1,rfl,hh,hb1⟩
 have hz:=HB.out.2.2
 have p1:=(hb1.block w.heap.size (by omega)).trans HB.out.2.1
 have hB1:=below_then HB.out.1 hb1 (lr_ _)
 have hnd:NdC (fun g=>w.heap.size<g) w1 (.mk 2 ys []) (.int .u8 2) (.slice A1 ys.length c1) (.slice none 0 0):=ndC_leaf (by omega) hh.2.1 hh.2.2.1 hh.1 (fun hn g off sp e=>by
  obtain⟨b',off',e',hb',_⟩:=hh.1.2.2 hn
  have:=hh.2.2.2 b' off' e'
  rw[e'] at e;cases e;omega)
 obtain⟨r0,r1,r2,hB⟩:=res3 (y0:=.int .u8 2) (y1:=.slice A1 ys.length c1) (y2:=.slice none 0 0) (lr_ _) hB1 p1
 have hn2:=res3_nd (b:=w.heap.size) (y0:=.int .u8 2) (y1:=.slice A1 ys.length c1) (y2:=.slice none 0 0) (fun g hg=>by omega) hnd
 have f0:=fh_ p1 0
 have f1:=fh_ p1 1
 have f2:=fh_ p1 2
 have s0:=(ch_ p1 0).trans rfl
 have s1:=(ch_ p1 1).trans rfl
 have s2:=(ch_ p1 2).trans rfl
 have HE:=hd_ (ai_ hB (NdC.mono (B':=fun g=>w.heap.size≤g) (fun g hg=>by omega) _ _ _ _ hn2))
 clear hB hn2 hnd p1 hB1 hh hb1 HC HB hz
 go_wp2_with fail
 refine bodyPost_ret (v:=.agg #[.int .u8 2,.slice A1 ys.length c1,.slice none 0 0]) ?_ rfl ⟨HE.out.1,_,_,_,_,_,_,_,rfl,HE.out.2⟩
 simp[results,Tryz.results34,go_sem,r0,r1,r2]
theorem roctets_any (A:Option Addr)(n c:Nat)(xs:List Int)(w:World)(hx:Bys w A n xs)(hc:n≤c)(hm:c≤maxLen)(hf:n≤140737488351232):
 Calls Tryz.prog 38 #[.slice A n c] w (NVal (fun g=>w.heap.size≤g) w (.mk 4 xs [])):=by
 obtain⟨W0,hW0⟩:=nm_ (w.alloc (.cells #[.int .u8 0,.slice none 0 0,.slice none 0 0] 43))
 have hb0:Below w.heap.size w W0:=by rw[←hW0];exact below_new _ _
 have p0:W0.heap[w.heap.size]? =some (.cells #[.int .u8 0,.slice none 0 0,.slice none 0 0] 43):=by rw[←hW0];exact heap_new_ _ _
 have hz0:W0.heap.size=w.heap.size+1:=by rw[←hW0];simp
 obtain⟨v3,w3,hrun,hown3,hg3,hob3⟩:=app_long (W0.alloc (.cells #[] 5)) W0.heap.size (.slice (some ⟨W0.heap.size,0,none⟩) 0 0) 0 [] (World.ownsRow_lit W0 #[] 0 (lr_ _) (Nat.zero_le _) rfl) A n c xs ((hx.below hb0).alloc _) (by omega) (by simp)
 rw[Nat.zero_add,List.nil_append] at hown3
 obtain⟨Ao,co,hv3,hlo,hco,hAo⟩:=own_shape hown3
 subst hv3
 have hb3:Below W0.heap.size W0 w3:=((br_ _ _).alloc (lr_ _) _).grown hg3 (by simp) fun j hj=>by have hj:some W0.heap.size=some j:=hj;cases hj;exact lr_ _
 have hbo:=Bys.own hown3 hx.2.1
 have hfar: ∀g off sp,Ao=some ⟨g,off,sp⟩→W0.heap.size≤g:=fun g off sp e=>(hown3.lt g (by rw[e];rfl)).1
 have p1:=(hb3.block w.heap.size (by omega)).trans p0
 have hB1:=below_then hb0 hb3 (lr_ _)
 have hlen:n=xs.length:=hx.1.symm
 have hnd:NdC (fun g=>w.heap.size<g) w3 (.mk 4 xs []) (.int .u8 4) (.slice Ao n co) (.slice none 0 0):=ndC_leaf (by omega) hlo hco hbo (fun hn g off sp e=>by have:=hfar g off sp e;omega)
 obtain⟨r0,r1,r2,hB⟩:=res3 (y0:=.int .u8 4) (y1:=.slice Ao n co) (y2:=.slice none 0 0) (lr_ _) hB1 p1
 have hn2:=res3_nd (b:=w.heap.size) (y0:=.int .u8 4) (y1:=.slice Ao n co) (y2:=.slice none 0 0) (fun g hg=>by omega) hnd
 have f0:=fh_ p1 0
 have f1:=fh_ p1 1
 have f2:=fh_ p1 2
 have s0:=(ch_ p1 0).trans rfl
 have s1:=(ch_ p1 1).trans rfl
 have s2:=(ch_ p1 2).trans rfl
 have HE:=hd_ (ai_ hB (NdC.mono (B':=fun g=>w.heap.size≤g) (fun g hg=>by omega) _ _ _ _ hn2))
 clear hB hn2 hnd p1 hB1 hb3 hbo hfar hown3 hg3 hob3 hx hlen hb0 p0 hz0 hAo hlo hco
 go_enter Tryz.func38,Tryz.ntmps38
 go_wp2_with (at_builtin;refine wpl_append rfl (.tmp 3) (.tmp 4) 34 rfl _ _ _ rfl rfl hrun ?_)
 refine bodyPost_ret (v:=.agg #[.int .u8 4,.slice Ao n co,.slice none 0 0]) ?_ rfl ⟨HE.out.1,_,_,_,_,_,_,_,rfl,HE.out.2⟩
 simp[results,Tryz.results38,go_sem,r0,r1,r2]
theorem rbytes_any (B:Nat→Prop)(n:Nd)(b:List Int)(c0 c1 c2:Value)(w:World)(hn:NdC B w n c0 c1 c2)(hsz:szN n≤20000)(hnt:noT n)(hw:writeF n 0=.ok b)(hT:Tabs w):
 Calls Tryz.prog 82 #[.agg #[c0,c1,c2]] w (BVal w b):=by
 obtain⟨t,A,la,ca,K,lk,ck,rfl,rfl,rfl⟩:=hn.shape
 obtain⟨W0,hW0⟩:=nm_ (w.alloc (.cells #[.int .u8 t,.slice A la ca,.slice K lk ck] 43))
 have hb0:Below w.heap.size w W0:=by rw[←hW0];exact below_new _ _
 have q0:W0.heap[w.heap.size]? =some (.cells #[.int .u8 t,.slice A la ca,.slice K lk ck] 43):=by rw[←hW0];exact heap_new_ _ _
 obtain⟨x0,x1,x2⟩:=box3_ (br_ _ W0) q0
 have hC:=refPrintN_any n hsz hnt B _ W0 ⟨_,_,_,rfl,NdC.below hb0 _ _ _ _ hn⟩ (hT.below hb0)
 rw[hw] at hC
 have HC:=hd_ hC
 have HB:=hd_ hb0
 clear hC hb0 q0 hn hw hsz hnt
 go_enter Tryz.func82,Tryz.ntmps82
 go_wp2_with fail
 refine HC.out.mono ?_
 rintro e w1 ⟨hb1,A1,k1,rfl,h1,h2,h3⟩
 have HE:=hd_ (ai_ (below_then HB.out hb1 (lr_ _)) (ai_ h1 (ai_ h2 (fun g off sp e=>Nat.le_trans HB.out.size (h3 g off sp e)))))
 clear x0 x1 x2 HC hb1 h1 h2 h3
 go_wp2
 go_ret
 exact⟨HE.out.1,_,_,rfl,HE.out.2.1,HE.out.2.2.1.1,HE.out.2.2.1.2,HE.out.2.2.2⟩
theorem rknown_any (i:Nat)(w:World)(hi:i<5):
 Calls Tryz.prog 81 #[.int .i64 i] w fun e w'=>∃g,e=.returned (.slice (some ⟨g,0,none⟩) 4 4)∧Ins w' (some ⟨g,0,none⟩) 4 (koid i)∧w.heap.size≤g∧Below w.heap.size w w':=by
 obtain⟨W1,hW1⟩:=nm_ (w.alloc (.cells #[.int .i64 19,.int .i64 15,.int .i64 37,.int .i64 17,.int .i64 30] 3))
 have hb1:Below w.heap.size w W1:=by rw[←hW1];exact below_new _ _
 have p1:W1.heap[w.heap.size]? =some (.cells #[.int .i64 19,.int .i64 15,.int .i64 37,.int .i64 17,.int .i64 30] 3):=by rw[←hW1];exact heap_new_ _ _
 obtain⟨k,hk⟩: ∃k:Int,[19,15,37,17,30].getD i 0=k:=⟨_,rfl⟩
 have e0:W1.cell? ⟨w.heap.size,i,none⟩=some (.int .i64 k):=by
  rw[←hk]
  match i,hi with
  |0,_=>exact(ch_ p1 _).trans rfl
  |1,_=>exact(ch_ p1 _).trans rfl
  |2,_=>exact(ch_ p1 _).trans rfl
  |3,_=>exact(ch_ p1 _).trans rfl
  |4,_=>exact(ch_ p1 _).trans rfl
 have hf:Fit8 (koid i):=by
  match i,hi with
  |0,_=>unfold Fit8;decide
  |1,_=>unfold Fit8;decide
  |2,_=>unfold Fit8;decide
  |3,_=>unfold Fit8;decide
  |4,_=>unfold Fit8;decide
 have hko:koid i=[2,5,29,k]:=by unfold koid;rw[hk]
 rw[hko] at hf⊢
 have hlit:=ins_lit (w:=W1) [2,5,29,k] 3 (0,0) hf
 have HE:=hd_ (ai_ hlit (ai_ hb1.size (below_then hb1 (below_new W1 (.cells #[.int .i64 2,.int .i64 5,.int .i64 29,.int .i64 k] 3)) (lr_ _))))
 have i0:(0:Int)≤(i:Int):=by omega
 have i5:(i:Int)<5:=by omega
 clear hlit hb1 p1 hf hko hk hi
 go_enter Tryz.func81,Tryz.ntmps81
 go_wp2
 go_ret
 exact⟨_,rfl,HE.out.1,HE.out.2.1,HE.out.2.2⟩
def whichFrom (o:List Int)(i:Nat):Int:=match i with
 |0=>whichF o
 |1=>if o=koid 1 then 1 else if o=koid 2 then 2 else if o=koid 3 then 3 else if o=koid 4 then 4 else -1
 |2=>if o=koid 2 then 2 else if o=koid 3 then 3 else if o=koid 4 then 4 else -1
 |3=>if o=koid 3 then 3 else if o=koid 4 then 4 else -1
 |4=>if o=koid 4 then 4 else -1
 |_=> -1
theorem which_step {o:List Int}{i:Nat}(hi:i<5):whichFrom o i=if decide (o=koid i)=true then (i:Int) else whichFrom o (i+1):=by
 match i,hi with
 |0,_=>simp[whichFrom,whichF]
 |1,_=>simp[whichFrom]
 |2,_=>simp[whichFrom]
 |3,_=>simp[whichFrom]
 |4,_=>simp[whichFrom]
theorem rwhich_any (A:Option Addr)(n c:Nat)(xs:List Int)(w:World)(hx:Ins w A n xs)(hc:n≤c)(hm:c≤maxLen):
 Calls Tryz.prog 149 #[.slice A n c] w fun e w'=>e=.returned (.int .i64 (whichF xs))∧Below w.heap.size w w':=by
 obtain⟨R,hR⟩:=nm_ (whichF xs)
 rw[hR]
 have hR0:whichFrom xs 0=R:=hR
 have HX:=hd_ (ai_ hx (Nat.le_trans hc hm))
 clear hx hR hc hm
 go_enter Tryz.func149,Tryz.ntmps149
 go_wp2_with fail
 have HR:=hd_ hR0
 clear hR0
 go_loopg [3] (5+1) (fun gk s wx=>∃(i:Nat),s=.int .i64 i∧i≤5∧5 - i<gk∧Hid (whichFrom xs i=R∧Below w.heap.size w wx))
 case atStart=>exact⟨0,rfl,by omega,by omega,hd_ ⟨HR.out,br_ _ _⟩⟩
 case round=>
  obtain⟨i,rfl,hi,hgk,HI⟩:=hrel
  clear HR
  by_cases hlt:i<5
  ·have hltz:(i:Int)<5:=by omega
   obtain⟨gk',rfl⟩: ∃g',gk=g'+1:=⟨gk - 1,by omega⟩
   have HN:=hd_ (ai_ (show i+1≤5 from hlt) (show 5 - (i+1)<gk' by omega))
   have hst:=which_step (o:=xs) hlt
   rw[HI.out.1] at hst
   obtain⟨b,hb⟩:=nm_ (decide (xs=koid i))
   rw[hb] at hst
   have HS:=hd_ hst
   have HK:=hd_ (rknown_any i wr hlt)
   have HE:=hd_ hb
   clear hst hb hgk
   go_wp2_with fail
   refine HK.out.mono ?_
   rintro e w1 ⟨g,rfl,hg,hge,hb1⟩
   have hE:=isame_b A (some ⟨g,0,none⟩) n c 4 4 xs (koid i) w1 (HX.out.1.below (below_then HI.out.2 hb1 (lr_ _))) hg HX.out.2
   rw[HE.out] at hE
   have HC:=hd_ hE
   have HB1:=hd_ (below_then HI.out.2 hb1 (lr_ _))
   clear hE hg hge hb1 HK
   go_wp2_with fail
   refine HC.out.mono ?_
   rintro e w2 ⟨rfl,hb2⟩
   have HB2:=hd_ (below_then HB1.out hb2 (lr_ _))
   clear hb2 HC HB1
   cases b
   ·have HS2:=hd_ (show whichFrom xs (i+1)=R by have h:=HS.out;simpa using h.symm)
    go_wp2
    go_roundg gk'
    case measure=>omega
    case rel=>exact⟨i+1,by go_num,HN.out.1,HN.out.2,hd_ ⟨HS2.out,HB2.out⟩⟩
   ·have hR:R=(i:Int):=by have h:=HS.out;simpa using h
    subst hR
    clear HS HI HE
    go_wp2
    go_ret
    exact⟨rfl,HB2.out⟩
  ·obtain rfl:5=i:=by omega
   have hltz: ¬((5:Nat):Int)<5:=by omega
   have hR: -1=R:=HI.out.1
   subst hR
   have HW:=hd_ HI.out.2
   clear hgk HI
   go_wp2
   go_ret
   exact⟨rfl,HW.out⟩
theorem rnames_any (B:Nat→Prop)(A:Option Addr)(n c:Nat)(xs:List (List At))(w:World)(hl:xs.length=n)(hL:Lst nmE B w A xs)(hc:n≤c)(hm:c≤maxLen)(hT:Tabs w):
 Calls Tryz.prog 69 #[.slice A n c] w fun e w'=>e=.returned (.bool (xs.all rightN && decide (n≤16)))∧Below w.heap.size w w':=by
 have h9:c≤9223372036854775807:=by unfold maxLen at hm;omega
 obtain⟨R,hR⟩:=nm_ ((xs.all rightN && decide (n≤16)))
 rw[hR]
 have HR:=hd_ (show((xs.drop 0).all rightN && decide (n≤16))=R by rw[List.drop_zero];exact hR)
 have HL:=hd_ (ai_ hl (ai_ hL hT))
 clear hl hL hR hm hT
 go_enter Tryz.func69,Tryz.ntmps69
 go_wp2_with fail
 go_loopg [3] (n+1) (fun gk s wx=>∃(i:Nat),s=.int .i64 i∧i≤n∧n - i<gk∧Hid (((xs.drop i).all rightN && decide (n≤16))=R∧Below w.heap.size w wx))
 case atStart=>exact⟨0,rfl,by omega,by omega,hd_ ⟨HR.out,br_ _ _⟩⟩
 case round=>
  obtain⟨i,rfl,hi,hgk,HI⟩:=hrel
  clear HR
  by_cases hlt:i<n
  ·have hltz:(i:Int)< (n:Int):=by omega
   obtain⟨gk',rfl⟩: ∃g',gk=g'+1:=⟨gk - 1,by omega⟩
   have HN:=hd_ (ai_ (show i+1≤n from hlt) (show n - (i+1)<gk' by omega))
   have hix:i<xs.length:=by rw[HL.out.1];exact hlt
   obtain⟨g,off,cs,rfl,hg,hcell,hold⟩:=(HL.out.2.1.below HI.out.2).at i hix
   obtain⟨e0,rfl,a,ca,rfl,h1,h2,h3⟩:=hold
   have hst:((xs.drop i).all rightN && decide (n≤16))=(rightN xs[i] && ((xs.drop (i+1)).all rightN && decide (n≤16))):=by rw[List.drop_eq_getElem_cons hix,List.all_cons,Bool.and_assoc]
   rw[HI.out.1] at hst
   obtain⟨y,hy⟩:=nm_ (xs[i])
   rw[hy] at h1 h3 hst hcell
   clear hy
   have hC:=rright_any B a y.length ca y wr rfl h3 h1 h2 (HL.out.2.2.below HI.out.2)
   obtain⟨m,hmm⟩:=nm_ (y.length)
   have x0:=hcell 0 _ rfl
   rw[show nmE.sz=1 from rfl] at x0
   simp only[Nat.add_zero,Nat.mul_one] at x0
   rw[hmm] at x0 hC
   obtain⟨b,hb⟩:=nm_ (rightN y)
   rw[hb] at hC hst
   have HC:=hd_ hC
   have HS:=hd_ hst
   have i1:(0:Int)≤(i:Int):=by omega
   clear hC hst hb hmm h1 h2 h3 hcell hgk
   go_wp2_with fail
   refine HC.out.mono ?_
   rintro e w2 ⟨rfl,hb2⟩
   have HB2:=hd_ (below_then HI.out.2 hb2 (lr_ _))
   clear hb2 HC x0
   cases b
   ·have hRf:R=false:=by have h:=HS.out;simpa using h
    subst hRf
    clear HS HI
    go_wp2
    go_ret
    exact⟨rfl,HB2.out⟩
   ·have HS2:=hd_ (show((xs.drop (i+1)).all rightN && decide (n≤16))=R by have h:=HS.out;rw[Bool.true_and] at h;exact h.symm)
    clear HS
    go_wp2
    go_roundg gk'
    case measure=>omega
    case rel=>exact⟨i+1,by go_num,HN.out.1,HN.out.2,hd_ ⟨HS2.out,HB2.out⟩⟩
  ·obtain rfl:n=i:=by omega
   have hltz: ¬(n:Int)< (n:Int):=by omega
   have hRe:decide (n≤16)=R:=by have h:=HI.out.1;rw[List.drop_of_length_le (Nat.le_of_eq HL.out.1)] at h;simpa using h
   have HW:=hd_ HI.out.2
   have h16:((n:Int)≤16)=(n≤16):=by rw[eq_iff_iff];omega
   subst hRe
   clear hgk HI
   by_cases hn:n≤16
   ·have hnz:(n:Int)≤16:=by omega
    go_wp2
    go_ret
    exact⟨by simp[hn],HW.out⟩
   ·have hnz: ¬(n:Int)≤16:=by omega
    go_wp2
    go_ret
    exact⟨by simp[hn],HW.out⟩
end Go.Proofs.YtkjkhoglkpepiaaGreatDoor.nmc
set_option maxRecDepth 100000
set_option maxHeartbeats 8000000
set_option linter.unusedVariables false
set_option linter.unusedSimpArgs false
namespace Go.Proofs.YtkjkhoglkpepiaaGreatDoor.nmc
open Go.RowKit tlvc tlvd ndc txc txm intc intm
section
variable {Y:Nat→Prop} {W0 wx w3:World} {v:Value} {xs:List Nd} {n:Nd} {c0 c1 c2:Value}
theorem LInv.node (h:LInv ndE 43 Y W0 v xs wx)(hY: ∀g,W0.heap.size≤g→Y g)(h3:Below wx.heap.size wx w3)(hn:NdC (fun g=>wx.heap.size≤g) w3 n c0 c1 c2)(hs:xs.length≤100000):
 ∃A c w7,(Builtin.append_ #[41,41] 41 #[v,.slice (some ⟨w3.heap.size,0,none⟩) 1 1]).run Tryz.prog (w3.alloc (.cells #[c0,c1,c2] 43))=.ok (.slice A (xs.length+1) c) w7∧LInv ndE 43 Y W0 (.slice A (xs.length+1) c) (xs++[n]) w7:=by
 have hlo:=h.bel.size
 exact h.push Tryz.infN hY (below_then h3 (below_new w3 (.cells #[c0,c1,c2] 43)) (lr_ _)) (x:=n) (news:=[c0,c1,c2]) ⟨c0,c1,c2,rfl,NdC.mono (fun g hg=>⟨hY g (by omega),.inr hg⟩) _ _ _ _ (NdC.below (below_new _ _) _ _ _ _ hn)⟩ h3.size (heap_new_ _ _) (fun j u hu=>by
  match j,hu with
  |0,hu=>exact hu
  |1,hu=>exact hu
  |2,hu=>exact hu
  |j+3,hu=>simp at hu) (by omega) (by unfold maxLen;omega)
theorem LInv.lit (hY: ∀g,W0.heap.size≤g→Y g)(h3:Below W0.heap.size W0 w3)(hn:NdC (fun g=>W0.heap.size≤g) w3 n c0 c1 c2):
 LInv ndE 43 Y W0 (.slice (some ⟨w3.heap.size,0,none⟩) 1 1) [n] (w3.alloc (.cells #[c0,c1,c2] 43)):=by
 obtain⟨t,A,l,c,K,m,k,rfl,rfl,rfl⟩:=hn.shape
 refine⟨below_then h3 (below_new _ _) (lr_ _),[_,_,_],World.ownsRow_lit w3 #[.int .u8 t,.slice A l c,.slice K m k] 1 h3.size (by unfold maxLen;omega) rfl,All.one_ (E:=ndE) ⟨_,_,_,rfl,?_⟩⟩
 have hb:=NdC.below (below_new w3 (.cells #[.int .u8 t,.slice A l c,.slice K m k] 43)) _ _ _ _ (NdC.bound _ _ _ _ hn)
 exact NdC.mono (fun g hg=>⟨hY g hg.1,by simp;omega,fun e=>by
  have e:some g=some w3.heap.size:=e
  cases e
  exact absurd hg.2 (by omega)⟩) _ _ _ _ hb
end
def NLVal (w:World)(ks:List Nd)(e:Ending)(w':World):Prop:=
 Below w.heap.size w w'∧∃A c,e=.returned (.slice A ks.length c)∧ks.length≤c∧c≤maxLen∧Lst ndE (fun g=>w.heap.size≤g) w' A ks
theorem rext_any (A:Option Addr)(n c:Nat)(B:Option Addr)(m d:Nat)(cr:Bool)(xs ys:List Int)(w:World)(ho:objB xs=true)(hx:Ins w A n xs)(hc:n≤c)(hm:c≤maxLen)(hy:Bys w B m ys)(hd:m≤d)(hm2:d≤maxLen)(hf:m≤140737488351232):
 Calls Tryz.prog 80 #[.slice A n c,.bool cr,.slice B m d] w (NVal (fun g=>w.heap.size≤g) w (extF ⟨xs,cr,ys⟩)):=by
 obtain⟨W0,hW0⟩:=nm_ (w.alloc (.cells #[.int .u8 0,.slice none 0 0,.slice none 0 0] 43))
 have hb0:Below w.heap.size w W0:=by rw[←hW0];exact below_new _ _
 have p0:W0.heap[w.heap.size]? =some (.cells #[.int .u8 0,.slice none 0 0,.slice none 0 0] 43):=by rw[←hW0];exact heap_new_ _ _
 have hz0:W0.heap.size=w.heap.size+1:=by rw[←hW0];simp
 have he:extF ⟨xs,cr,ys⟩=.mk 48 [] (([.mk 6 (encO xs) []]++onlyL cr (.mk 1 (boolB true) []))++[.mk 4 ys []]):=by
  unfold extF
  rw[oidN_of ho]
  cases cr<;>rfl
 rw[he]
 have HO:=hd_ (roid_any A n c xs W0 ho (hx.below hb0) hc hm)
 have HT:=hd_ (fun W=>rtruth_any true W)
 have HQ:=hd_ (fun W (hW:Below W0.heap.size W0 W)=>roctets_any B m d ys W (hy.below (below_then hb0 hW (lr_ _))) hd hm2 hf)
 have HB:=hd_ (ai_ hb0 (ai_ p0 hz0))
 obtain⟨n1,hn1⟩:=nm_ (Nd.mk 6 (encO xs) [])
 obtain⟨n2,hn2⟩:=nm_ (Nd.mk 1 (boolB true) [])
 obtain⟨n3,hn3⟩:=nm_ (Nd.mk 4 ys [])
 rw[hn1] at HO⊢
 rw[hn3] at HQ⊢
 rw[hn2] at HT⊢
 clear hn1 hn2 hn3 he hb0 p0 hz0 hx hy ho hm hm2 hf hc hd
 go_enter Tryz.func80,Tryz.ntmps80
 go_wp2_with fail
 refine HO.out.mono ?_
 rintro e w1 ⟨hb1,t1,A1,l1,k1,K1,m1,j1,rfl,hd1⟩
 have hL:=LInv.lit (Y:=fun g=>W0.heap.size≤g) (W0:=W0) (fun g h=>h) hb1 hd1
 obtain⟨W1,hW1⟩:=nm_ (w1.alloc (.cells #[.int .u8 t1,.slice A1 l1 k1,.slice K1 m1 j1] 43))
 rw[hW1] at hL
 have HL:=hd_ hL
 clear hL hb1 hd1 HO
 go_upto_if 11 with fail
 go_cut [7] (fun s7 wx=>∃(A7:Option Addr) (k7 c7:Nat),s7=.slice A7 k7 c7∧Hid (([n1]++onlyL cr n2).length=k7∧LInv ndE 43 (fun g=>W0.heap.size≤g) W0 (.slice A7 k7 c7) ([n1]++onlyL cr n2) wx))
 case first=>
  cases cr
  ·have hfin:=hd_ (show([n1]++onlyL false n2).length=1∧LInv ndE 43 (fun g=>W0.heap.size≤g) W0 (.slice (some ⟨w1.heap.size,0,none⟩) 1 1) ([n1]++onlyL false n2) W1 from⟨rfl,HL.out⟩)
   (try simp only[hW1])
   go_wp2_with fail
   go_meet
   exact⟨_,_,_,rfl,hfin⟩
  ·(try simp only[hW1])
   have HT1:=hd_ (HT.out W1)
   go_wp2_with fail
   (try simp only[hW1])
   refine HT1.out.mono ?_
   rintro e w2 ⟨hb2,t2,A2,l2,k2,K2,m2,j2,rfl,hd2⟩
   obtain⟨A7,c7,w7,hrun,hL7⟩:=HL.out.node (fun g h=>h) hb2 hd2 (by simp)
   have hfin:=hd_ (show([n1]++onlyL true n2).length=2∧LInv ndE 43 (fun g=>W0.heap.size≤g) W0 (.slice A7 2 c7) ([n1]++onlyL true n2) w7 from⟨rfl,hL7⟩)
   have hrun:(Builtin.append_ #[41,41] 41 #[.slice (some ⟨w1.heap.size,0,none⟩) 1 1,.slice (some ⟨w2.heap.size,0,none⟩) 1 1]).run Tryz.prog (w2.alloc (.cells #[.int .u8 t2,.slice A2 l2 k2,.slice K2 m2 j2] 43))=.ok (.slice A7 2 c7) w7:=hrun
   clear hL7 hb2 hd2 HT1 HL
   go_wp2_with (at_builtin;refine wpl_append rfl (.tmp 12) (.tmp 14) 41 rfl _ _ _ rfl rfl hrun ?_)
   clear hrun
   go_wp2_with fail
   go_meet
   exact⟨_,_,_,rfl,hfin⟩
 case rest=>
  obtain⟨A7,k7,c7,rfl,H7⟩:=hcut
  have HQ4:=hd_ (HQ.out _ H7.out.2.bel)
  go_wp2_with fail
  refine HQ4.out.mono ?_
  rintro e w3 ⟨hb3,t3,A3,l3,k3,K3,m3,j3,rfl,hd3⟩
  have hlen7:([n1]++onlyL cr n2).length≤100000:=by cases cr<;>(simp[onlyL])
  obtain⟨A8,c8,w8,hrun,hL8⟩:=H7.out.2.node (fun g h=>h) hb3 hd3 hlen7
  rw[H7.out.1] at hrun hL8
  obtain⟨A9,c9,e9,hc1,hc2,hLs⟩:=hL8.row.lst (fun g h=>h)
  have hln:(([n1]++onlyL cr n2)++[n3]).length=k7+1:=by rw[List.length_append,H7.out.1];rfl
  rw[hln] at e9 hc1
  simp only[Value.slice.injEq] at e9
  obtain⟨rfl,_,rfl⟩:=e9
  have hcall:=rseq_any (fun g=>W0.heap.size≤g) 48 A8 (k7+1) c8 _ w8 (by omega) hln hc1 hc2 hLs
  have HC:=hd_ hcall
  have HW:=hd_ (ai_ (below_then HB.out.1 hL8.bel (lr_ _)) ((hL8.bel.block _ (by rw[HB.out.2.2];omega)).trans HB.out.2.1))
  clear hL8 hLs hcall hb3 hd3 hlen7 HQ4 H7 hln
  go_wp2_with (at_builtin;refine wpl_append rfl (.tmp 16) (.tmp 19) 41 rfl _ _ _ rfl rfl hrun ?_)
  clear hrun
  go_wp2_with fail
  refine HC.out.mono ?_
  rintro e w2 ⟨hb2,t,A5,la5,ca5,K5,lk5,ck5,rfl,hn⟩
  have hz:=HB.out.2.2
  have p2:=(hb2.block _ (Array.getElem?_eq_some_iff.1 HW.out.2).1).trans HW.out.2
  obtain⟨r0,r1,r2,hB⟩:=res3 (y0:=.int .u8 t) (y1:=.slice A5 la5 ca5) (y2:=.slice K5 lk5 ck5) (lr_ _) (below_then HW.out.1 hb2 (lr_ _)) p2
  have hn2:=res3_nd (b:=w.heap.size) (y0:=.int .u8 t) (y1:=.slice A5 la5 ca5) (y2:=.slice K5 lk5 ck5) (fun g hg=>by omega) hn
  have f0:=fh_ p2 0
  have f1:=fh_ p2 1
  have f2:=fh_ p2 2
  have s0:=(ch_ p2 0).trans rfl
  have s1:=(ch_ p2 1).trans rfl
  have s2:=(ch_ p2 2).trans rfl
  have HE:=hd_ (ai_ hB (NdC.mono (B':=fun g=>w.heap.size≤g) (fun g hg=>by omega) _ _ _ _ hn2))
  clear hB hn hn2 p2 hb2 HC HW hz
  go_wp2_with fail
  refine bodyPost_ret (v:=.agg #[.int .u8 t,.slice A5 la5 ca5,.slice K5 lk5 ck5]) ?_ rfl ⟨HE.out.1,_,_,_,_,_,_,_,rfl,HE.out.2⟩
  simp[results,Tryz.results80,go_sem,r0,r1,r2]
theorem rspace_any (B:Nat→Prop)(A:Option Addr)(n c:Nat)(xs:List (List At))(w:World)(hl:xs.length=n)(hL:Lst nmE B w A xs)(hc:n≤c)(hm:c≤maxLen)(h16:n≤16)(hok: ∀y∈xs,rightN y=true):
 Calls Tryz.prog 85 #[.slice A n c] w (NLVal w (xs.map nameZ)):=by
 have h9:c≤9223372036854775807:=by unfold maxLen at hm;omega
 have HL:=hd_ (ai_ hl (ai_ hL hok))
 clear hl hL hm hok
 go_enter Tryz.func85,Tryz.ntmps85
 go_wp2_with fail
 go_loopg [3,4] (n+1) (fun gk s3 s4 wx=>∃(i:Nat) (Av:Option Addr) (cv:Nat),s3=.slice Av i cv∧s4=.int .i64 i∧i≤n∧n - i<gk∧Hid (LInv ndE 43 (fun g=>w.heap.size≤g) w (.slice Av i cv) ((xs.take i).map nameZ) wx))
 case atStart=>exact⟨0,none,0,rfl,rfl,by omega,by omega,hd_ LInv.start⟩
 case round=>
  obtain⟨i,Av,cv,rfl,rfl,hi,hgk,HI⟩:=hrel
  have hlk:((xs.take i).map nameZ).length=i:=by rw[List.length_map,List.length_take];have:=HL.out.1;omega
  by_cases hlt:i<n
  ·have hltz:(i:Int)< (n:Int):=by omega
   obtain⟨gk',rfl⟩: ∃g',gk=g'+1:=⟨gk - 1,by omega⟩
   have HN:=hd_ (ai_ (show i+1≤n from hlt) (show n - (i+1)<gk' by omega))
   have hix:i<xs.length:=by rw[HL.out.1];exact hlt
   obtain⟨g,off,cs,rfl,hg,hcell,hold⟩:=(HL.out.2.1.below HI.out.bel).at i hix
   obtain⟨e0,rfl,a,ca,rfl,h1,h2,h3⟩:=hold
   have hr:=HL.out.2.2 xs[i] (List.getElem_mem hix)
   have hnx:(xs.take i).map nameZ++[nameZ xs[i]]=(xs.take (i+1)).map nameZ:=by rw[List.take_succ_eq_append_getElem hix,List.map_append,List.map_cons,List.map_nil]
   obtain⟨y,hy⟩:=nm_ (xs[i])
   rw[hy] at hr hnx h1 h3 hcell
   clear hy
   have h8:=(rightN_iff y).1 hr
   have hz:nameZ y=nameN y:=by unfold nameZ;rw[if_pos hr]
   rw[hz] at hnx
   have hC:=rnode_any B a y.length ca y wr rfl h3 h1 h2 (by omega) (fun b hb=>((attrOK_iff b).1 (h8.2 b hb)).1)
   obtain⟨nd,hnd⟩:=nm_ (nameN y)
   rw[hnd] at hC hnx
   obtain⟨ly,hly⟩:=nm_ (y.length)
   rw[hly] at hC hcell
   have x0:=hcell 0 _ rfl
   rw[show nmE.sz=1 from rfl] at x0
   simp only[Nat.add_zero,Nat.mul_one] at x0
   have HC:=hd_ hC
   have HX:=hd_ (ai_ hlk hnx)
   have i1:(0:Int)≤(i:Int):=by omega
   clear hC hlk hnx hr h8 hz hnd hly h1 h2 h3 hcell hgk
   go_wp2_with fail
   refine HC.out.mono ?_
   rintro e w3 ⟨hb3,t3,A3,l3,k3,K3,m3,j3,rfl,hd3⟩
   obtain⟨A7,c7,w7,hrun,hL7⟩:=HI.out.node (fun g h=>h) hb3 hd3 (by rw[HX.out.1];omega)
   rw[HX.out.1] at hrun hL7
   rw[HX.out.2] at hL7
   have H7:=hd_ hL7
   clear hL7 hb3 hd3 HC HI x0
   go_wp2_with (at_builtin;refine wpl_append rfl (.tmp 11) (.tmp 17) 41 rfl _ _ _ rfl rfl hrun ?_)
   clear hrun
   go_wp2
   go_roundg gk'
   case measure=>omega
   case rel=>exact⟨i+1,A7,c7,rfl,by go_num,HN.out.1,HN.out.2,H7⟩
  ·obtain rfl:n=i:=by omega
   have hltz: ¬(n:Int)< (n:Int):=by omega
   have htk:(xs.take n).map nameZ=xs.map nameZ:=by rw[List.take_of_length_le (Nat.le_of_eq HL.out.1)]
   have HI2:=HI
   rw[htk] at HI2
   rw[htk] at hlk
   have HE:=hd_ (ai_ hlk HI2.out)
   clear hlk HI2 htk HI hgk
   go_wp2
   go_ret
   obtain⟨A2,c2,e2,hc1,hc2,hLs⟩:=HE.out.2.row.lst (fun g h=>h)
   rw[HE.out.1] at e2 hc1
   simp only[Value.slice.injEq] at e2
   obtain⟨rfl,_,rfl⟩:=e2
   exact⟨HE.out.2.bel,Av,cv,(by rw[HE.out.1];rfl),by rw[HE.out.1];exact hc1,hc2,hLs⟩
end Go.Proofs.YtkjkhoglkpepiaaGreatDoor.nmc
