/- The program's closure that tells an odd extension; its searc The program's closures that tell what each of the five known -/
import Derived.Test.YtkjkhoglkpepiaaGreatDoorAh
import Derived.Test.YtkjkhoglkpepiaaGreatDoorYf
import Derived.Lib.QuietBelow
import Derived.BigQuiet
import Derived.Test.YtkjkhoglkpepiaaGreatDoorAf
set_option maxRecDepth 100000
set_option maxHeartbeats 8000000
set_option linter.unusedVariables false
set_option linter.unusedSimpArgs false
namespace Go.Proofs.YtkjkhoglkpepiaaGreatDoor.nmc
open Go.RowKit tlvc tlvd ndc txc txm intc intm
theorem isOid_any (A B:Option Addr)(n c m d:Nat)(xs ys:List Int)(v1 v2:Value)(q:Nat)(w:World)(hx:Ins w A n xs)(hm:n≤maxLen)(hy:Ins w B m ys)(hq:w.heap[q]? =some (.cells #[.slice B m d,v1,v2] 102)):
 Calls Tryz.prog 105 #[.slice A n c,.pointer (some ⟨q,0,none⟩)] w fun e w'=>e=.returned (.bool (decide (xs=ys)))∧Below w.heap.size w w':=by
 have d0:w.cell? ⟨q,0,none⟩=some (.slice B m d):=(ch_ hq 0).trans rfl
 have HC:=hd_ (ieq_any A B n c m d xs ys w hx hy hm)
 obtain⟨r,hr⟩:=nm_ (decide (xs=ys))
 rw[hr] at HC⊢
 clear hx hm hy hq hr
 go_enter Tryz.func105,Tryz.ntmps105
 go_wp2_with fail
 refine HC.out.mono ?_
 rintro e w1 ⟨rfl,k,rfl⟩
 have HB:=hd_ (belowD (br_ w.heap.size w) k)
 clear HC d0
 go_wp2
 go_ret
 exact⟨rfl,HB.out⟩
theorem indexOid_any (S:Nat→Prop)(A B:Option Addr)(n c m d:Nat)(xs:List (List Int))(ys:List Int)(v1 v2:Value)(q:Nat)(w:World)(hl:xs.length=n)(hL:Lst inE S w A xs)(hc:n≤c)(hm:c≤maxLen)(hy:Ins w B m ys)(hq:w.heap[q]? =some (.cells #[.slice B m d,v1,v2] 102)):
 Calls Tryz.prog 171 #[.slice A n c,.func (.func 105) #[] #[.pointer (some ⟨q,0,none⟩)]] w fun e w'=>Below w.heap.size w w'∧∃r:Int,e=.returned (.int .i64 r)∧(0≤r↔ys∈xs):=by
 have h9:c≤9223372036854775807:=by unfold maxLen at hm;omega
 have hent:=enters_of Tryz.func105 (by kernel_rfl) rfl
 have HL:=hd_ (ai_ hl (ai_ hL (ai_ hy hq)))
 clear hl hL hq hy hm
 go_enter Tryz.func171,Tryz.ntmps171
 go_wp2_with fail
 go_loopg [8] (n+1) (fun gk s8 wx=>∃(i:Nat),s8=.int .i64 i∧i≤n∧n - i<gk∧Hid (Below w.heap.size w wx∧∀(j:Nat) (h:j<xs.length),j<i→xs[j]≠ys))
 case atStart=>exact⟨0,rfl,by omega,by omega,hd_ ⟨br_ _ _,fun j _ hj=>absurd hj (by omega)⟩⟩
 case round=>
  obtain⟨i,rfl,hi,hgk,HI⟩:=hrel
  by_cases hlt:i<n
  ·have hltz:(i:Int)< (n:Int):=by omega
   obtain⟨gk',rfl⟩: ∃g',gk=g'+1:=⟨gk - 1,by omega⟩
   have HN:=hd_ (ai_ (show i+1≤n from hlt) (show n - (i+1)<gk' by omega))
   have hix:i<xs.length:=by rw[HL.out.1];exact hlt
   obtain⟨g,off,cs,rfl,_,hcell,e0',rfl,A1,l1,k1,rfl,i1,i2,i3,_⟩:=(HL.out.2.1.below HI.out.1).at i hix
   have e0:=hcell 0 _ rfl
   rw[show inE.sz=1 from rfl,Nat.mul_one,Nat.add_zero] at e0
   have hq1:=(HI.out.1.block q (Array.getElem?_eq_some_iff.1 HL.out.2.2.2).1).trans HL.out.2.2.2
   have hcall:=isOid_any A1 B l1 k1 m d xs[i] ys v1 v2 q wr i3 (Nat.le_trans i1 i2) (HL.out.2.2.1.below HI.out.1) hq1
   obtain⟨r,hr⟩:=nm_ (decide (xs[i]=ys))
   rw[hr] at hcall
   have HC:=hd_ hcall
   have HR:=hd_ hr
   clear hcall hr hq1 i1 i2 i3 hcell hgk
   go_wp2_with fail
   refine HC.out.mono ?_
   rintro e w3 ⟨rfl,hb3⟩
   have hfin:=hd_ (below_then HI.out.1 hb3 (lr_ _))
   clear hb3 HC e0
   cases r with
   |true=>
    have HF:=hd_ (show ys∈xs from by rw[←of_decide_eq_true HR.out];exact List.getElem_mem hix)
    clear HR hix
    go_wp2
    go_ret
    exact⟨hfin.out,i,rfl,fun _=>HF.out,fun _=>by omega⟩
   |false=>
    have HS:=hd_ (show Below w.heap.size w w3∧∀(j:Nat) (h:j<xs.length),j<i+1→xs[j]≠ys from⟨hfin.out,fun j h hj=>by
     rcases Nat.lt_or_ge j i with h1 |h1
     ·exact HI.out.2 j h h1
     ·obtain rfl:j=i:=by omega
      exact of_decide_eq_false HR.out⟩)
    clear HR hix
    go_wp2
    go_roundg gk'
    case measure=>omega
    case rel=>exact⟨i+1,by go_num,HN.out.1,HN.out.2,HS⟩
  ·obtain rfl:n=i:=by omega
   have hltz: ¬(n:Int)< (n:Int):=by omega
   clear hgk
   go_wp2
   go_ret
   exact⟨HI.out.1, -1,rfl,fun h=>absurd h (by decide),fun h=>by
    obtain⟨j,hj,e⟩:=List.mem_iff_getElem.1 h
    exact absurd e (HI.out.2 j hj (by have:=HL.out.1;omega))⟩
theorem contains_any (S:Nat→Prop)(A B:Option Addr)(n c m d:Nat)(xs:List (List Int))(ys:List Int)(v1 v2:Value)(q:Nat)(w:World)(hl:xs.length=n)(hL:Lst inE S w A xs)(hc:n≤c)(hm:c≤maxLen)(hy:Ins w B m ys)(hq:w.heap[q]? =some (.cells #[.slice B m d,v1,v2] 102)):
 Calls Tryz.prog 104 #[.slice A n c,.func (.func 105) #[] #[.pointer (some ⟨q,0,none⟩)]] w fun e w'=>e=.returned (.bool (decide (ys∈xs)))∧Below w.heap.size w w':=by
 have HC:=hd_ (indexOid_any S A B n c m d xs ys v1 v2 q w hl hL hc hm hy hq)
 clear hl hL hc hm hy hq
 go_enter Tryz.func104,Tryz.ntmps104
 go_wp2_with fail
 refine HC.out.mono ?_
 rintro e w1 ⟨hb1,r,rfl,hiff⟩
 have HF:=hd_ (ai_ hb1 (show decide (0≤r)=decide (ys∈xs) from decide_eq_decide.2 hiff))
 clear hb1 hiff HC
 go_wp2
 go_ret
 exact⟨by rw[←HF.out.2];rfl,HF.out.1⟩
end Go.Proofs.YtkjkhoglkpepiaaGreatDoor.nmc
set_option maxRecDepth 100000
set_option maxHeartbeats 8000000
set_option linter.unusedVariables false
set_option linter.unusedSimpArgs false
namespace Go.Proofs.YtkjkhoglkpepiaaGreatDoor.nmc
open Go.RowKit tlvc tlvd ndc txc txm intc intm
structure XB (B:Nat→Prop) (w:World) (q p:Nat) (x:Ex) (c0 c1 c2 c3 c4 c5 c6 c7 c8:Value):Prop where
 q:w.heap[q]? =some (.cells #[.pointer (some ⟨p,0,none⟩)] 95)
 p:w.heap[p]? =some (.cells #[c0,c1,c2,c3,c4,c5,c6,c7,c8] 30)
 x:ExC B w x c0 c1 c2 c3 c4 c5 c6 c7 c8
theorem XB.below {B:Nat→Prop}{w w':World}{q p:Nat}{x:Ex}{c0 c1 c2 c3 c4 c5 c6 c7 c8:Value}(h:XB B w q p x c0 c1 c2 c3 c4 c5 c6 c7 c8)(hb:Below w.heap.size w w'):XB B w' q p x c0 c1 c2 c3 c4 c5 c6 c7 c8:=
 ⟨(hb.block _ (Array.getElem?_eq_some_iff.1 h.q).1).trans h.q,(hb.block _ (Array.getElem?_eq_some_iff.1 h.p).1).trans h.p,h.x.below hb⟩
theorem XB.cells {B:Nat→Prop}{w:World}{q p:Nat}{x:Ex}{c0 c1 c2 c3 c4 c5 c6 c7 c8:Value}(h:XB B w q p x c0 c1 c2 c3 c4 c5 c6 c7 c8):w.cell? ⟨q,0,none⟩=some (.pointer (some ⟨p,0,none⟩))∧w.cell? ⟨p,0,none⟩=some c0∧w.cell? ⟨p,1,none⟩=some c1∧w.cell? ⟨p,2,none⟩=some c2∧w.cell? ⟨p,3,none⟩=some c3∧w.cell? ⟨p,4,none⟩=some c4∧w.cell? ⟨p,5,none⟩=some c5∧w.cell? ⟨p,6,none⟩=some c6∧w.cell? ⟨p,7,none⟩=some c7∧w.cell? ⟨p,8,none⟩=some c8:=
 ⟨(ch_ h.q _).trans rfl,(ch_ h.p _).trans rfl,(ch_ h.p _).trans rfl,(ch_ h.p _).trans rfl,(ch_ h.p _).trans rfl,(ch_ h.p _).trans rfl,(ch_ h.p _).trans rfl,(ch_ h.p _).trans rfl,(ch_ h.p _).trans rfl,(ch_ h.p _).trans rfl⟩
theorem XB.size {B:Nat→Prop}{w:World}{q p:Nat}{x:Ex}{c0 c1 c2 c3 c4 c5 c6 c7 c8:Value}(h:XB B w q p x c0 c1 c2 c3 c4 c5 c6 c7 c8):q<w.heap.size∧p<w.heap.size:=⟨(Array.getElem?_eq_some_iff.1 h.q).1,(Array.getElem?_eq_some_iff.1 h.p).1⟩
theorem flat1 {α:Type}(a:List α):[a].flatten=a:=by simp
theorem flat2 {α:Type}(a b:List α):[a,b].flatten=a++b:=by simp
theorem says1_any (B:Nat→Prop)(x:Ex)(q p:Nat)(c0 c1 c2 c3 c4 c5 c6 c7 c8:Value)(w:World)(hX:XB B w q p x c0 c1 c2 c3 c4 c5 c6 c7 c8):
 Calls Tryz.prog 114 #[.pointer (some ⟨q,0,none⟩)] w (NVal (fun g=>w.heap.size≤g) w (saysF x 1)):=by
 have mixed:Tryz.prog.follows Departure.mixedOrders=true:=by kernel_rfl
 obtain⟨W0,hW0⟩:=nm_ (w.alloc (.cells #[.int .u8 0,.slice none 0 0,.slice none 0 0] 43))
 have hb0:Below w.heap.size w W0:=by rw[←hW0];exact below_new _ _
 have p0:W0.heap[w.heap.size]? =some (.cells #[.int .u8 0,.slice none 0 0,.slice none 0 0] 43):=by rw[←hW0];exact heap_new_ _ _
 have hz0:W0.heap.size=w.heap.size+1:=by rw[←hW0];simp
 have hqp:=hX.size
 obtain⟨d0,_,_,_,d3,_⟩:=(hX.below hb0).cells
 rw[hX.x.usage] at d3
 have hu:=hX.x.u16
 rw[show saysF x 1=.mk 3 (putM x.usage) [] from rfl]
 have HC:=hd_ (putBits_any x.usage W0 hu)
 obtain⟨ys,hys⟩:=nm_ (putM x.usage)
 rw[hys] at HC⊢
 have HB:=hd_ (ai_ hb0 (ai_ p0 hz0))
 clear hb0 p0 hz0 hX hqp hu hys
 go_enter Tryz.func114,Tryz.ntmps114
 go_wp2_with fail
 refine HC.out.mono ?_
 rintro e w1 ⟨B9,n9,rfl,hh,hb1⟩
 have hz:=HB.out.2.2
 obtain⟨m9,hm9⟩:=nm_ (ys.length)
 have hnF:NdC (fun g=>w.heap.size+1≤g) w1 (.mk 3 ys []) (.int .u8 3) (.slice B9 m9 n9) (.slice none 0 0):=by
  rw[←hm9]
  exact ndC_leaf (by omega) hh.2.1 hh.2.2.1 hh.1 (fun hn g off sp e=>by
   obtain⟨b',off',e',hb',_⟩:=hh.1.2.2 hn
   have:=hh.2.2.2 b' off' e'
   rw[e'] at e;cases e;omega)
 rw[hm9]
 obtain⟨t9,ht9⟩: ∃y:Int,3=y:=⟨_,rfl⟩
 have hBw:=below_then HB.out.1 hb1 (lr_ _)
 have p9:=(hb1.block w.heap.size (by omega)).trans HB.out.2.1
 obtain⟨r0,r1,r2,hB⟩:=res3 (b:=w.heap.size) (y0:=.int .u8 3) (y1:=.slice B9 m9 n9) (y2:=.slice none 0 0) (lr_ _) hBw p9
 have hn2:=res3_nd (b:=w.heap.size) (y0:=.int .u8 3) (y1:=.slice B9 m9 n9) (y2:=.slice none 0 0) (fun g hg=>by omega) hnF
 have f0:=fh_ p9 0
 have f1:=fh_ p9 1
 have f2:=fh_ p9 2
 have s0:=(ch_ p9 0).trans rfl
 have s1:=(ch_ p9 1).trans rfl
 have s2:=(ch_ p9 2).trans rfl
 have HE:=hd_ (ai_ hB (NdC.mono (B':=fun g=>w.heap.size≤g) (fun g hg=>by omega) _ _ _ _ hn2))
 clear hB hn2 hnF p9 hBw hh hb1 HC HB hz hm9 d0 d3 ht9
 go_wp2_with fail
 refine bodyPost_ret (v:=.agg #[.int .u8 3,.slice B9 m9 n9,.slice none 0 0]) ?_ rfl ⟨HE.out.1,_,_,_,_,_,_,_,rfl,HE.out.2⟩
 simp[results,Tryz.results114,go_sem,r0,r1,r2]
theorem says2_any (B:Nat→Prop)(x:Ex)(q p:Nat)(c0 c1 c2 c3 c4 c5 c6 c7 c8:Value)(w:World)(hX:XB B w q p x c0 c1 c2 c3 c4 c5 c6 c7 c8)(h16:x.eku.length≤16):
 Calls Tryz.prog 118 #[.pointer (some ⟨q,0,none⟩)] w (NVal (fun g=>w.heap.size≤g) w (saysF x 2)):=by
 have mixed:Tryz.prog.follows Departure.mixedOrders=true:=by kernel_rfl
 obtain⟨W0,hW0⟩:=nm_ (w.alloc (.cells #[.int .u8 0,.slice none 0 0,.slice none 0 0] 43))
 have hb0:Below w.heap.size w W0:=by rw[←hW0];exact below_new _ _
 have p0:W0.heap[w.heap.size]? =some (.cells #[.int .u8 0,.slice none 0 0,.slice none 0 0] 43):=by rw[←hW0];exact heap_new_ _ _
 have hz0:W0.heap.size=w.heap.size+1:=by rw[←hW0];simp
 have hqp:=hX.size
 obtain⟨d0,_,_,_,_,d4,_⟩:=(hX.below hb0).cells
 obtain⟨A4,k4,rfl,i1,i2,i3⟩:=hX.x.eku
 rw[show saysF x 2=.mk 48 [] (([x.eku.map oidN]:List (List Nd)).flatten) from by rw[flat1];rfl]
 have hent:=enters_of Tryz.func120 (by kernel_rfl) rfl
 have hcall:=eachInN B oidN 120 A4 x.eku.length k4 x.eku W0 rfl (i3.below hb0) i1 i2 (by omega) hent
  (fun ys _ W _ c0 hold=>by
    obtain⟨c0',e,A,l,c,rfl,h1,h2,h3,_⟩:=hold
    simp only[List.cons.injEq,and_true] at e
    subst e
    exact objectNode_any A l c ys W h3 h1 h2)
 have hlm:(x.eku.map oidN).length≤1000:=by rw[List.length_map];omega
 obtain⟨L4,hL4⟩:=nm_ (x.eku.length)
 rw[hL4] at hcall d4
 obtain⟨ks,hks⟩:=nm_ (x.eku.map oidN)
 rw[hks] at hcall hlm⊢
 have HC:=hd_ hcall
 have HB:=hd_ (ai_ hb0 (ai_ p0 (ai_ hz0 hlm)))
 clear hb0 p0 hz0 hX hqp hcall i1 i2 i3 h16 hlm hL4 hks
 go_enter Tryz.func118,Tryz.ntmps118
 go_wp2_with fail
 refine HC.out.mono ?_
 rintro e w1 ⟨hb1,A5,c5,rfl,j1,j2,hl5⟩
 have hz:=HB.out.2.2.1
 have hb12:=below_new w1 (.cells #[.slice A5 ks.length c5] 41)
 have hq2:=heap_new_ w1 (.cells #[.slice A5 ks.length c5] 41)
 have hls:Lst (lsE ndE) (fun g=>w.heap.size+1≤g) (w1.alloc (.cells #[.slice A5 ks.length c5] 41)) (some ⟨w1.heap.size,0,none⟩) [ks]:=lst_all hq2 rfl (by have:=hb1.size;omega) (all_one ⟨A5,c5,rfl,j1,j2,(hl5.below hb12).mono (fun g hg=>by omega)⟩)
 have hj:=joined_any (fun g=>w.heap.size+1≤g) 48 _ 1 1 _ _ (by omega) (fun g hg=>by have:=hb1.size;have:=hb12.size;omega) rfl hls (lr_ _) (by unfold maxLen;decide) (by decide) (by rw[flat1];exact HB.out.2.2.2)
 have HJ:=hd_ hj
 have HB1:=hd_ (below_then hb1 hb12 (lr_ _))
 clear hj hls hq2 hb12 hl5 j1 j2 hb1 HC hz d4
 go_wp2_with fail
 refine HJ.out.mono ?_
 rintro e w9 ⟨hb9,t9,B9,m9,n9,K9,u9,v9,rfl,hnF⟩
 have hz:=HB.out.2.2.1
 have hb9:=below_then HB1.out hb9 (lr_ _)
 have hBw:=below_then HB.out.1 hb9 (lr_ _)
 have p9:=(hb9.block w.heap.size (by omega)).trans HB.out.2.1
 obtain⟨r0,r1,r2,hB⟩:=res3 (b:=w.heap.size) (y0:=.int .u8 t9) (y1:=.slice B9 m9 n9) (y2:=.slice K9 u9 v9) (lr_ _) hBw p9
 have hn2:=res3_nd (b:=w.heap.size) (y0:=.int .u8 t9) (y1:=.slice B9 m9 n9) (y2:=.slice K9 u9 v9) (fun g hg=>by omega) hnF
 have f0:=fh_ p9 0
 have f1:=fh_ p9 1
 have f2:=fh_ p9 2
 have s0:=(ch_ p9 0).trans rfl
 have s1:=(ch_ p9 1).trans rfl
 have s2:=(ch_ p9 2).trans rfl
 have HE:=hd_ (ai_ hB (NdC.mono (B':=fun g=>w.heap.size≤g) (fun g hg=>by omega) _ _ _ _ hn2))
 clear hB hn2 hnF p9 hBw hb9 hz HJ HB HB1
 go_wp2_with fail
 refine bodyPost_ret (v:=.agg #[.int .u8 t9,.slice B9 m9 n9,.slice K9 u9 v9]) ?_ rfl ⟨HE.out.1,_,_,_,_,_,_,_,rfl,HE.out.2⟩
 simp[results,Tryz.results118,go_sem,r0,r1,r2]
theorem says0_any (B:Nat→Prop)(x:Ex)(q p:Nat)(c0 c1 c2 c3 c4 c5 c6 c7 c8:Value)(w:World)(hX:XB B w q p x c0 c1 c2 c3 c4 c5 c6 c7 c8):
 Calls Tryz.prog 108 #[.pointer (some ⟨q,0,none⟩)] w (NVal (fun g=>w.heap.size≤g) w (saysF x 0)):=by
 have mixed:Tryz.prog.follows Departure.mixedOrders=true:=by kernel_rfl
 obtain⟨W0,hW0⟩:=nm_ (w.alloc (.cells #[.int .u8 0,.slice none 0 0,.slice none 0 0] 43))
 have hb0:Below w.heap.size w W0:=by rw[←hW0];exact below_new _ _
 have p0:W0.heap[w.heap.size]? =some (.cells #[.int .u8 0,.slice none 0 0,.slice none 0 0] 43):=by rw[←hW0];exact heap_new_ _ _
 have hz0:W0.heap.size=w.heap.size+1:=by rw[←hW0];simp
 have hqp:=hX.size
 have hi:=hX.x.i64
 have HI:=hd_ (show I64 x.path from hi)
 have HX:Hid (∀W,Below W0.heap.size W0 W→W.cell? ⟨q,0,none⟩=some (.pointer (some ⟨p,0,none⟩))∧W.cell? ⟨p,1,none⟩=some (.bool x.ca)∧W.cell? ⟨p,2,none⟩=some (.int .i64 x.path)):=hd_ fun W hW=>by
  obtain⟨e0,_,e1,e2,_⟩:=(hX.below (below_then hb0 hW (lr_ _))).cells
  rw[hX.x.ca] at e1
  rw[hX.x.path] at e2
  exact⟨e0,e1,e2⟩
 obtain⟨d0,d1,d2⟩:=HX.out W0 (br_ _ _)
 have HB:=hd_ (ai_ hb0 (ai_ p0 hz0))
 have HQP:=hd_ hqp
 have HW0:=hd_ hW0
 obtain⟨pb,hpb⟩:=nm_ ((x.ca && decide (x.path≠ -1)))
 clear hW0
 cases hca:x.ca
 ·rw[hca] at d1 HX
  obtain rfl:pb=false:=by rw[←hpb,hca];rfl
  have hext:saysF x 0=.mk 48 [] (([onlyL false truthN,onlyL false (numN x.path)]:List (List Nd)).flatten):=by rw[flat2];show Nd.mk 48 [] (onlyL x.ca truthN++onlyL (x.ca && decide (x.path≠ -1)) (numN x.path))=_;rw[hca];rfl
  rw[hext]
  clear hb0 p0 hz0 hX hqp hext hca hpb hi
  go_enter Tryz.func108,Tryz.ntmps108
  go_wp2_with fail
  try dsimp only
  rw[HW0.out]
  try dsimp only
  refine wp_region_noPanic ?_
  refine wp_region_held_drew (S:=fun wx:World=>wx.cell? ⟨q,0,none⟩=some (.pointer (some ⟨p,0,none⟩))∧wx.cell? ⟨p,1,none⟩=some (.bool false)∧wx.cell? ⟨p,2,none⟩=some (.int .i64 x.path)) mixed ⟨d0,d1,d2⟩ (fun hHeld=>?_)
  have hbd:=below_drew W0
  obtain⟨wd,hwd⟩:=nm_ (W0.drew)
  rw[hwd] at hHeld hbd⊢
  clear hwd
  refine tk_ (i:=0) (z:=?_)
  refine tk_ (i:=6) (z:=?_)
  refine tk_ (i:=17) (z:=?_)
  refine tk_ (i:=1) (z:=?_)
  refine tk_ (i:=7) (z:=?_)
  refine tk_ (i:=18) (z:=?_)
  refine tk_ (i:=2) (z:=?_)
  refine tk_ (i:=8) (z:=?_)
  refine tk_ (i:=19) (z:=?_)
  refine tk_ (i:=3) (z:=?_)
  refine tk_ (i:=9) (z:=?_)
  refine tk_ (i:=20) (z:=?_)
  refine on_ (i:=4) (z:=fun KK hKK=>?_)
  go_simp
  refine(truth_any _).mono ?_
  rintro e w3 ⟨hb3,t3,B3,m3,n3,K3,u3,v3,rfl,hn3⟩
  dsimp only
  have hn3:=NdC.mono (B':=fun g=>w.heap.size+1≤g) (fun g hg=>by have:=hbd.size;have:=HB.out.2.2;omega) _ _ _ _ hn3
  have hb3:=below_then hbd hb3 (lr_ _)
  refine hKK.out _ _ (HX.out _ hb3) (fun hHeld=>?_)
  clear hKK KK
  try simp only[Act.put,qa_,qb_,qc_]
  refine on_ (i:=5) (z:=fun KK hKK=>?_)
  go_simp
  refine(only_any (fun g=>w.heap.size+1≤g) false _ _ _ _ w3 (fun g hg=>by have:=hb3.size;have:=HB.out.2.2;omega) hn3).mono ?_
  rintro e w4 ⟨hb4,A4,k4,rfl,k41,k42,hl4⟩
  dsimp only
  have hb4:=below_then hb3 hb4 (lr_ _)
  refine hKK.out _ _ (HX.out _ hb4) (fun hHeld=>?_)
  clear hKK KK
  try simp only[Act.put,qa_,qb_,qc_]
  refine tk_ (i:=10) (z:=?_)
  (refine wpAnyH_take (i:=11) (oi:=⟨_,_,_,_,_,_⟩) (v:=undef) rfl (by kernel_rfl) (by kernel_rfl) (by kernel_rfl) (fun _ _ _ h=>h) (Or.inr ⟨by kernel_rfl,rfl⟩) (by assumption) ?_;(try simp only[Act.put,qa_,qb_,qc_]))
  (refine wpAnyH_take (i:=12) (oi:=⟨_,_,_,_,_,_⟩) (v:=undef) rfl (by kernel_rfl) (by kernel_rfl) (by kernel_rfl) (fun _ _ _ h=>h) (Or.inr ⟨by kernel_rfl,rfl⟩) (by assumption) ?_;(try simp only[Act.put,qa_,qb_,qc_]))
  (refine wpAnyH_take (i:=13) (oi:=⟨_,_,_,_,_,_⟩) (v:=undef) rfl (by kernel_rfl) (by kernel_rfl) (by kernel_rfl) (fun _ _ _ h=>h) (Or.inr ⟨by kernel_rfl,rfl⟩) (by assumption) ?_;(try simp only[Act.put,qa_,qb_,qc_]))
  (refine wpAnyH_take (i:=14) (oi:=⟨_,_,_,_,_,_⟩) (v:=undef) rfl (by kernel_rfl) (by kernel_rfl) (by kernel_rfl) (fun _ _ _ h=>h) (Or.inr ⟨by kernel_rfl,rfl⟩) (by assumption) ?_;(try simp only[Act.put,qa_,qb_,qc_]))
  (refine wpAnyH_take (i:=15) (oi:=⟨_,_,_,_,_,_⟩) (v:=undef) rfl (by kernel_rfl) (by kernel_rfl) (by kernel_rfl) (fun _ _ _ h=>h) (Or.inr ⟨by kernel_rfl,rfl⟩) (by assumption) ?_;(try simp only[Act.put,qa_,qb_,qc_]))
  refine tk_ (i:=16) (z:=?_)
  refine on_ (i:=21) (z:=fun KK hKK=>?_)
  go_simp
  refine(number_any x.path w4 HI.out).mono ?_
  rintro e w5 ⟨hb5,t5,B5,m5,n5,K5,u5,v5,rfl,hn5⟩
  dsimp only
  have hn5:=NdC.mono (B':=fun g=>w.heap.size+1≤g) (fun g hg=>by have:=hb4.size;have:=HB.out.2.2;omega) _ _ _ _ hn5
  have hb45:=hb5
  have hb5:=below_then hb4 hb5 (lr_ _)
  refine hKK.out _ _ (HX.out _ hb5) (fun hHeld=>?_)
  clear hKK KK
  try simp only[Act.put,qa_,qb_,qc_]
  refine on_ (i:=22) (z:=fun KK hKK=>?_)
  go_simp
  refine(only_any (fun g=>w.heap.size+1≤g) false _ _ _ _ w5 (fun g hg=>by have:=hb5.size;have:=HB.out.2.2;omega) hn5).mono ?_
  rintro e w6 ⟨hb6,A6,k6,rfl,k61,k62,hl6⟩
  dsimp only
  have hb56:=hb6
  have hb6:=below_then hb5 hb6 (lr_ _)
  refine hKK.out _ _ (HX.out _ hb6) (fun hHeld=>?_)
  clear hKK KK
  try simp only[Act.put,qa_,qb_,qc_]
  refine on_ (i:=23) (z:=fun KK hKK=>?_)
  go_simp
  have hb78:=below_new w6 (.cells #[.slice A4 (onlyL false truthN).length k4,.slice A6 (onlyL false (numN x.path)).length k6] 41)
  have hb8:=below_then hb6 hb78 (lr_ _)
  have hq8:=heap_new_ w6 (.cells #[.slice A4 (onlyL false truthN).length k4,.slice A6 (onlyL false (numN x.path)).length k6] 41)
  have hls:Lst (lsE ndE) (fun g=>w.heap.size+1≤g) (w6.alloc (.cells #[.slice A4 (onlyL false truthN).length k4,.slice A6 (onlyL false (numN x.path)).length k6] 41)) (some ⟨w6.heap.size,0,none⟩) [onlyL false truthN,onlyL false (numN x.path)]:=lst_all hq8 rfl (by have:=hb6.size;have:=HB.out.2.2;omega) (all_two ⟨A4,k4,rfl,k41,k42,(hl4.below (below_then hb45 hb56 (lr_ _))).below hb78⟩ ⟨A6,k6,rfl,k61,k62,hl6.below hb78⟩)
  have hlen2:([onlyL false truthN,onlyL false (numN x.path)]:List (List Nd)).flatten.length≤1000:=by
   have i1:=onlyL_len false truthN
   have i2:=onlyL_len false (numN x.path)
   rw[flat2,List.length_append]
   omega
  refine hKK.out _ _ (HX.out _ hb8) (fun hHeld=>?_)
  clear hKK KK
  try simp only[Act.put,qa_,qb_,qc_]
  refine on_ (i:=24) (z:=fun KK hKK=>?_)
  go_simp
  refine(joined_any (fun g=>w.heap.size+1≤g) 48 _ 2 2 _ _ (by omega) (fun g hg=>by have:=hb8.size;have:=HB.out.2.2;omega) rfl hls (lr_ _) (by unfold maxLen;decide) (by decide) hlen2).mono ?_
  rintro e w9 ⟨hb9,t9,B9,m9,n9,K9,u9,v9,rfl,hnF⟩
  dsimp only
  have hb9:=below_then hb8 hb9 (lr_ _)
  refine hKK.out _ _ (HX.out _ hb9) (fun hHeld=>?_)
  clear hKK KK
  try simp only[Act.put,qa_,qb_,qc_]
  have hz:=HB.out.2.2
  have hBw:=below_then HB.out.1 hb9 (lr_ _)
  have p9:=(hb9.block w.heap.size (by omega)).trans HB.out.2.1
  obtain⟨r0,r1,r2,hB⟩:=res3 (b:=w.heap.size) (y0:=.int .u8 t9) (y1:=.slice B9 m9 n9) (y2:=.slice K9 u9 v9) (lr_ _) hBw p9
  have hn2:=res3_nd (b:=w.heap.size) (y0:=.int .u8 t9) (y1:=.slice B9 m9 n9) (y2:=.slice K9 u9 v9) (fun g hg=>by omega) hnF
  have f0:=fh_ p9 0
  have f1:=fh_ p9 1
  have f2:=fh_ p9 2
  have s0:=(ch_ p9 0).trans rfl
  have s1:=(ch_ p9 1).trans rfl
  have s2:=(ch_ p9 2).trans rfl
  have HE:=hd_ (ai_ hB (NdC.mono (B':=fun g=>w.heap.size≤g) (fun g hg=>by omega) _ _ _ _ hn2))
  have hoth: ∀g,g≠w.heap.size→(((w9.setCell ⟨w.heap.size,0,none⟩ (.int .u8 t9)).setCell ⟨w.heap.size,1,none⟩ (.slice B9 m9 n9)).setCell ⟨w.heap.size,2,none⟩ (.slice K9 u9 v9)).heap[g]? =w9.heap[g]? :=fun g hg=>set3_other w9 _ _ _ _ hg
  obtain⟨z0,z1,z2⟩:=HX.out _ hb9
  have hcb:=ai_ ((cell_same (hoth q (by have:=HQP.out;omega))).trans z0) (ai_ ((cell_same (hoth p (by have:=HQP.out;omega))).trans z1) ((cell_same (hoth p (by have:=HQP.out;omega))).trans z2))
  refine on_ (i:=25) (z:=fun KK hKK=>?_)
  go_simp
  refine hKK.out _ _ hcb (fun hHeld=>?_)
  clear hKK KK
  try simp only[Act.put,qa_,qb_,qc_]
  refine wpAnyH_done (by kernel_rfl) ?_ _
  refine NoPanic.normal ?_
  clear hHeld hcb z0 z1 z2 s0 s1 s2 f0 f1 f2 p9 hoth hb3 hb4 hb5 hb6 hb8 hb9 hb45 hb56 hb78 hq8 hls hbd hBw hB hn2 hnF hn3 hn5 hl4 hl6 k41 k42 k61 k62 hlen2 hz d0 d1 d2
  go_wp2_with fail
  refine bodyPost_ret (v:=.agg #[.int .u8 t9,.slice B9 m9 n9,.slice K9 u9 v9]) ?_ rfl ⟨HE.out.1,_,_,_,_,_,_,_,rfl,HE.out.2⟩
  simp[results,Tryz.results108,go_sem,r0,r1,r2]
 ·rw[hca] at d1 HX
  have hpd:decide (x.path≠ -1)=pb:=by rw[←hpb,hca];rfl
  have hpd':(true && decide (x.path≠ -1))=pb:=by rw[←hpb,hca]
  have hpd2:(x.path != -1)=pb:=by rw[←hpd];rw[Bool.eq_iff_iff];simp
  have hext:saysF x 0=.mk 48 [] (([onlyL true truthN,onlyL pb (numN x.path)]:List (List Nd)).flatten):=by rw[flat2];show Nd.mk 48 [] (onlyL x.ca truthN++onlyL (x.ca && decide (x.path≠ -1)) (numN x.path))=_;rw[hca];rw[hpd']
  rw[hext]
  clear hb0 p0 hz0 hX hqp hext hca hpb hi
  go_enter Tryz.func108,Tryz.ntmps108
  go_wp2_with fail
  try dsimp only
  rw[HW0.out]
  try dsimp only
  refine wp_region_noPanic ?_
  refine wp_region_held_drew (S:=fun wx:World=>wx.cell? ⟨q,0,none⟩=some (.pointer (some ⟨p,0,none⟩))∧wx.cell? ⟨p,1,none⟩=some (.bool true)∧wx.cell? ⟨p,2,none⟩=some (.int .i64 x.path)) mixed ⟨d0,d1,d2⟩ (fun hHeld=>?_)
  have hbd:=below_drew W0
  obtain⟨wd,hwd⟩:=nm_ (W0.drew)
  rw[hwd] at hHeld hbd⊢
  clear hwd
  refine tk_ (i:=0) (z:=?_)
  refine tk_ (i:=6) (z:=?_)
  refine tk_ (i:=17) (z:=?_)
  refine tk_ (i:=1) (z:=?_)
  refine tk_ (i:=7) (z:=?_)
  refine tk_ (i:=18) (z:=?_)
  refine tk_ (i:=2) (z:=?_)
  refine tk_ (i:=8) (z:=?_)
  refine tk_ (i:=19) (z:=?_)
  refine tk_ (i:=3) (z:=?_)
  refine tk_ (i:=9) (z:=?_)
  refine tk_ (i:=20) (z:=?_)
  refine on_ (i:=4) (z:=fun KK hKK=>?_)
  go_simp
  refine(truth_any _).mono ?_
  rintro e w3 ⟨hb3,t3,B3,m3,n3,K3,u3,v3,rfl,hn3⟩
  dsimp only
  have hn3:=NdC.mono (B':=fun g=>w.heap.size+1≤g) (fun g hg=>by have:=hbd.size;have:=HB.out.2.2;omega) _ _ _ _ hn3
  have hb3:=below_then hbd hb3 (lr_ _)
  refine hKK.out _ _ (HX.out _ hb3) (fun hHeld=>?_)
  clear hKK KK
  try simp only[Act.put,qa_,qb_,qc_]
  refine on_ (i:=5) (z:=fun KK hKK=>?_)
  go_simp
  refine(only_any (fun g=>w.heap.size+1≤g) true _ _ _ _ w3 (fun g hg=>by have:=hb3.size;have:=HB.out.2.2;omega) hn3).mono ?_
  rintro e w4 ⟨hb4,A4,k4,rfl,k41,k42,hl4⟩
  dsimp only
  have hb4:=below_then hb3 hb4 (lr_ _)
  refine hKK.out _ _ (HX.out _ hb4) (fun hHeld=>?_)
  clear hKK KK
  try simp only[Act.put,qa_,qb_,qc_]
  refine tk_ (i:=10) (z:=?_)
  (refine wpAnyH_take (i:=11) (oi:=⟨_,_,_,_,_,_⟩) (v:=?_) rfl (by kernel_rfl) (by kernel_rfl) (by kernel_rfl) (fun _ _ _ h=>h) (Or.inl ⟨by kernel_rfl,?_⟩) (by assumption) ?_;rotate_left;focus (intro wS hSw;(first |obtain⟨e1,e2,e3⟩:=hSw |skip);go_simp;(try with_reducible rfl);done);(try simp only[Act.put,qa_,qb_,qc_]))
  (refine wpAnyH_take (i:=12) (oi:=⟨_,_,_,_,_,_⟩) (v:=?_) rfl (by kernel_rfl) (by kernel_rfl) (by kernel_rfl) (fun _ _ _ h=>h) (Or.inl ⟨by kernel_rfl,?_⟩) (by assumption) ?_;rotate_left;focus (intro wS hSw;(first |obtain⟨e1,e2,e3⟩:=hSw |skip);go_simp;(try with_reducible rfl);done);(try simp only[Act.put,qa_,qb_,qc_]))
  (refine wpAnyH_take (i:=13) (oi:=⟨_,_,_,_,_,_⟩) (v:=?_) rfl (by kernel_rfl) (by kernel_rfl) (by kernel_rfl) (fun _ _ _ h=>h) (Or.inl ⟨by kernel_rfl,?_⟩) (by assumption) ?_;rotate_left;focus (intro wS hSw;(first |obtain⟨e1,e2,e3⟩:=hSw |skip);go_simp;(try with_reducible rfl);done);(try simp only[Act.put,qa_,qb_,qc_]))
  (refine wpAnyH_take (i:=14) (oi:=⟨_,_,_,_,_,_⟩) (v:=?_) rfl (by kernel_rfl) (by kernel_rfl) (by kernel_rfl) (fun _ _ _ h=>h) (Or.inl ⟨by kernel_rfl,?_⟩) (by assumption) ?_;rotate_left;focus (intro wS hSw;(first |obtain⟨e1,e2,e3⟩:=hSw |skip);go_simp;(try with_reducible rfl);done);(try simp only[Act.put,qa_,qb_,qc_]))
  (refine wpAnyH_take (i:=15) (oi:=⟨_,_,_,_,_,_⟩) (v:=?_) rfl (by kernel_rfl) (by kernel_rfl) (by kernel_rfl) (fun _ _ _ h=>h) (Or.inl ⟨by kernel_rfl,?_⟩) (by assumption) ?_;rotate_left;focus (intro wS hSw;(first |obtain⟨e1,e2,e3⟩:=hSw |skip);go_simp;(try with_reducible rfl);done);(try simp only[Act.put,qa_,qb_,qc_]))
  refine tk_ (i:=16) (z:=?_)
  refine on_ (i:=21) (z:=fun KK hKK=>?_)
  go_simp
  refine(number_any x.path w4 HI.out).mono ?_
  rintro e w5 ⟨hb5,t5,B5,m5,n5,K5,u5,v5,rfl,hn5⟩
  dsimp only
  have hn5:=NdC.mono (B':=fun g=>w.heap.size+1≤g) (fun g hg=>by have:=hb4.size;have:=HB.out.2.2;omega) _ _ _ _ hn5
  have hb45:=hb5
  have hb5:=below_then hb4 hb5 (lr_ _)
  refine hKK.out _ _ (HX.out _ hb5) (fun hHeld=>?_)
  clear hKK KK
  try simp only[Act.put,qa_,qb_,qc_]
  refine on_ (i:=22) (z:=fun KK hKK=>?_)
  go_simp
  refine(only_any (fun g=>w.heap.size+1≤g) pb _ _ _ _ w5 (fun g hg=>by have:=hb5.size;have:=HB.out.2.2;omega) hn5).mono ?_
  rintro e w6 ⟨hb6,A6,k6,rfl,k61,k62,hl6⟩
  dsimp only
  have hb56:=hb6
  have hb6:=below_then hb5 hb6 (lr_ _)
  refine hKK.out _ _ (HX.out _ hb6) (fun hHeld=>?_)
  clear hKK KK
  try simp only[Act.put,qa_,qb_,qc_]
  refine on_ (i:=23) (z:=fun KK hKK=>?_)
  go_simp
  have hb78:=below_new w6 (.cells #[.slice A4 (onlyL true truthN).length k4,.slice A6 (onlyL pb (numN x.path)).length k6] 41)
  have hb8:=below_then hb6 hb78 (lr_ _)
  have hq8:=heap_new_ w6 (.cells #[.slice A4 (onlyL true truthN).length k4,.slice A6 (onlyL pb (numN x.path)).length k6] 41)
  have hls:Lst (lsE ndE) (fun g=>w.heap.size+1≤g) (w6.alloc (.cells #[.slice A4 (onlyL true truthN).length k4,.slice A6 (onlyL pb (numN x.path)).length k6] 41)) (some ⟨w6.heap.size,0,none⟩) [onlyL true truthN,onlyL pb (numN x.path)]:=lst_all hq8 rfl (by have:=hb6.size;have:=HB.out.2.2;omega) (all_two ⟨A4,k4,rfl,k41,k42,(hl4.below (below_then hb45 hb56 (lr_ _))).below hb78⟩ ⟨A6,k6,rfl,k61,k62,hl6.below hb78⟩)
  have hlen2:([onlyL true truthN,onlyL pb (numN x.path)]:List (List Nd)).flatten.length≤1000:=by
   have i1:=onlyL_len true truthN
   have i2:=onlyL_len pb (numN x.path)
   rw[flat2,List.length_append]
   omega
  refine hKK.out _ _ (HX.out _ hb8) (fun hHeld=>?_)
  clear hKK KK
  try simp only[Act.put,qa_,qb_,qc_]
  refine on_ (i:=24) (z:=fun KK hKK=>?_)
  go_simp
  refine(joined_any (fun g=>w.heap.size+1≤g) 48 _ 2 2 _ _ (by omega) (fun g hg=>by have:=hb8.size;have:=HB.out.2.2;omega) rfl hls (lr_ _) (by unfold maxLen;decide) (by decide) hlen2).mono ?_
  rintro e w9 ⟨hb9,t9,B9,m9,n9,K9,u9,v9,rfl,hnF⟩
  dsimp only
  have hb9:=below_then hb8 hb9 (lr_ _)
  refine hKK.out _ _ (HX.out _ hb9) (fun hHeld=>?_)
  clear hKK KK
  try simp only[Act.put,qa_,qb_,qc_]
  have hz:=HB.out.2.2
  have hBw:=below_then HB.out.1 hb9 (lr_ _)
  have p9:=(hb9.block w.heap.size (by omega)).trans HB.out.2.1
  obtain⟨r0,r1,r2,hB⟩:=res3 (b:=w.heap.size) (y0:=.int .u8 t9) (y1:=.slice B9 m9 n9) (y2:=.slice K9 u9 v9) (lr_ _) hBw p9
  have hn2:=res3_nd (b:=w.heap.size) (y0:=.int .u8 t9) (y1:=.slice B9 m9 n9) (y2:=.slice K9 u9 v9) (fun g hg=>by omega) hnF
  have f0:=fh_ p9 0
  have f1:=fh_ p9 1
  have f2:=fh_ p9 2
  have s0:=(ch_ p9 0).trans rfl
  have s1:=(ch_ p9 1).trans rfl
  have s2:=(ch_ p9 2).trans rfl
  have HE:=hd_ (ai_ hB (NdC.mono (B':=fun g=>w.heap.size≤g) (fun g hg=>by omega) _ _ _ _ hn2))
  have hoth: ∀g,g≠w.heap.size→(((w9.setCell ⟨w.heap.size,0,none⟩ (.int .u8 t9)).setCell ⟨w.heap.size,1,none⟩ (.slice B9 m9 n9)).setCell ⟨w.heap.size,2,none⟩ (.slice K9 u9 v9)).heap[g]? =w9.heap[g]? :=fun g hg=>set3_other w9 _ _ _ _ hg
  obtain⟨z0,z1,z2⟩:=HX.out _ hb9
  have hcb:=ai_ ((cell_same (hoth q (by have:=HQP.out;omega))).trans z0) (ai_ ((cell_same (hoth p (by have:=HQP.out;omega))).trans z1) ((cell_same (hoth p (by have:=HQP.out;omega))).trans z2))
  refine on_ (i:=25) (z:=fun KK hKK=>?_)
  go_simp
  refine hKK.out _ _ hcb (fun hHeld=>?_)
  clear hKK KK
  try simp only[Act.put,qa_,qb_,qc_]
  refine wpAnyH_done (by kernel_rfl) ?_ _
  refine NoPanic.normal ?_
  clear hHeld hcb z0 z1 z2 s0 s1 s2 f0 f1 f2 p9 hoth hb3 hb4 hb5 hb6 hb8 hb9 hb45 hb56 hb78 hq8 hls hbd hBw hB hn2 hnF hn3 hn5 hl4 hl6 k41 k42 k61 k62 hlen2 hz d0 d1 d2
  go_wp2_with fail
  refine bodyPost_ret (v:=.agg #[.int .u8 t9,.slice B9 m9 n9,.slice K9 u9 v9]) ?_ rfl ⟨HE.out.1,_,_,_,_,_,_,_,rfl,HE.out.2⟩
  simp[results,Tryz.results108,go_sem,r0,r1,r2]
end Go.Proofs.YtkjkhoglkpepiaaGreatDoor.nmc
