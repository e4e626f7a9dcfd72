/- The program's closures that tell what each of the five known -/
import Derived.Test.YtjanfogifehhmaaGreatDoorAj
set_option maxRecDepth 100000
set_option maxHeartbeats 8000000
set_option linter.unusedVariables false
set_option linter.unusedSimpArgs false
namespace Go.Proofs.YtjanfogifehhmaaGreatDoor.nmc
open Go.RowKit tlvc tlvd ndc txc txm intc intm
structure XB (B:Nat→Prop) (w:World) (q p:Nat) (x:Ex) (c0 c1 c2 c3 c4 c5 c6 c7 c8:Value):Prop where
 q:w.heap[q]? =some (.cells #[.pointer (some ⟨p,0,none⟩)] 120)
 p:w.heap[p]? =some (.cells #[c0,c1,c2,c3,c4,c5,c6,c7,c8] 30)
 x:ExC B w x c0 c1 c2 c3 c4 c5 c6 c7 c8
theorem XB.below {B:Nat→Prop}{w w':World}{q p:Nat}{x:Ex}{c0 c1 c2 c3 c4 c5 c6 c7 c8:Value}(h:XB B w q p x c0 c1 c2 c3 c4 c5 c6 c7 c8)(hb:Below w.heap.size w w'):XB B w' q p x c0 c1 c2 c3 c4 c5 c6 c7 c8:=
 ⟨(hb.block _ (Array.getElem?_eq_some_iff.1 h.q).1).trans h.q,(hb.block _ (Array.getElem?_eq_some_iff.1 h.p).1).trans h.p,h.x.below hb⟩
theorem XB.cells {B:Nat→Prop}{w:World}{q p:Nat}{x:Ex}{c0 c1 c2 c3 c4 c5 c6 c7 c8:Value}(h:XB B w q p x c0 c1 c2 c3 c4 c5 c6 c7 c8):w.cell? ⟨q,0,none⟩=some (.pointer (some ⟨p,0,none⟩))∧w.cell? ⟨p,0,none⟩=some c0∧w.cell? ⟨p,1,none⟩=some c1∧w.cell? ⟨p,2,none⟩=some c2∧w.cell? ⟨p,3,none⟩=some c3∧w.cell? ⟨p,4,none⟩=some c4∧w.cell? ⟨p,5,none⟩=some c5∧w.cell? ⟨p,6,none⟩=some c6∧w.cell? ⟨p,7,none⟩=some c7∧w.cell? ⟨p,8,none⟩=some c8:=
 ⟨(ch_ h.q _).trans rfl,(ch_ h.p _).trans rfl,(ch_ h.p _).trans rfl,(ch_ h.p _).trans rfl,(ch_ h.p _).trans rfl,(ch_ h.p _).trans rfl,(ch_ h.p _).trans rfl,(ch_ h.p _).trans rfl,(ch_ h.p _).trans rfl,(ch_ h.p _).trans rfl⟩
theorem XB.size {B:Nat→Prop}{w:World}{q p:Nat}{x:Ex}{c0 c1 c2 c3 c4 c5 c6 c7 c8:Value}(h:XB B w q p x c0 c1 c2 c3 c4 c5 c6 c7 c8):q<w.heap.size∧p<w.heap.size:=⟨(Array.getElem?_eq_some_iff.1 h.q).1,(Array.getElem?_eq_some_iff.1 h.p).1⟩
theorem flat1 {α:Type}(a:List α):[a].flatten=a:=by simp
theorem flat2 {α:Type}(a b:List α):[a,b].flatten=a++b:=by simp
theorem says1_any (B:Nat→Prop)(x:Ex)(q p:Nat)(c0 c1 c2 c3 c4 c5 c6 c7 c8:Value)(w:World)(hX:XB B w q p x c0 c1 c2 c3 c4 c5 c6 c7 c8):
 Calls Tryz.prog 146 #[.pointer (some ⟨q,0,none⟩)] w (NVal (fun g=>w.heap.size≤g) w (saysF x 1)):=by
 have mixed:Tryz.prog.follows Departure.mixedOrders=true:=by kernel_rfl
 obtain⟨W0,hW0⟩:=nm_ (w.alloc (.cells #[.int .u8 0,.slice none 0 0,.slice none 0 0] 49))
 have hb0:Below w.heap.size w W0:=by rw[←hW0];exact below_new _ _
 have p0:W0.heap[w.heap.size]? =some (.cells #[.int .u8 0,.slice none 0 0,.slice none 0 0] 49):=by rw[←hW0];exact heap_new_ _ _
 have hz0:W0.heap.size=w.heap.size+1:=by rw[←hW0];simp
 have hqp:=hX.size
 obtain⟨d0,_,_,_,d3,_⟩:=(hX.below hb0).cells
 rw[hX.x.usage] at d3
 have hu:=hX.x.u16
 rw[show saysF x 1=.mk 3 (putM x.usage) [] from rfl]
 have HC:=hd_ (putBits_any x.usage W0 hu)
 obtain⟨ys,hys⟩:=nm_ (putM x.usage)
 rw[hys] at HC⊢
 have HB:=hd_ (ai_ hb0 (ai_ p0 hz0))
 clear hb0 p0 hz0 hX hqp hu hys
 go_enter Tryz.func146,Tryz.ntmps146
 go_wp2_with fail
 refine HC.out.mono ?_
 rintro e w1 ⟨B9,n9,rfl,hh,hb1⟩
 have hz:=HB.out.2.2
 obtain⟨m9,hm9⟩:=nm_ (ys.length)
 have hnF:NdC (fun g=>w.heap.size+1≤g) w1 (.mk 3 ys []) (.int .u8 3) (.slice B9 m9 n9) (.slice none 0 0):=by
  rw[←hm9]
  exact ndC_leaf (by omega) hh.2.1 hh.2.2.1 hh.1 (fun hn g off sp e=>by
   obtain⟨b',off',e',hb',_⟩:=hh.1.2.2 hn
   have:=hh.2.2.2 b' off' e'
   rw[e'] at e;cases e;omega)
 rw[hm9]
 obtain⟨t9,ht9⟩: ∃y:Int,3=y:=⟨_,rfl⟩
 have hBw:=below_then HB.out.1 hb1 (lr_ _)
 have p9:=(hb1.block w.heap.size (by omega)).trans HB.out.2.1
 obtain⟨r0,r1,r2,hB⟩:=res3 (b:=w.heap.size) (y0:=.int .u8 3) (y1:=.slice B9 m9 n9) (y2:=.slice none 0 0) (lr_ _) hBw p9
 have hn2:=res3_nd (b:=w.heap.size) (y0:=.int .u8 3) (y1:=.slice B9 m9 n9) (y2:=.slice none 0 0) (fun g hg=>by omega) hnF
 have f0:=fh_ p9 0
 have f1:=fh_ p9 1
 have f2:=fh_ p9 2
 have s0:=(ch_ p9 0).trans rfl
 have s1:=(ch_ p9 1).trans rfl
 have s2:=(ch_ p9 2).trans rfl
 have HE:=hd_ (ai_ hB (NdC.mono (B':=fun g=>w.heap.size≤g) (fun g hg=>by omega) _ _ _ _ hn2))
 clear hB hn2 hnF p9 hBw hh hb1 HC HB hz hm9 d0 d3 ht9
 go_wp2_with fail
 refine bodyPost_ret (v:=.agg #[.int .u8 3,.slice B9 m9 n9,.slice none 0 0]) ?_ rfl ⟨HE.out.1,_,_,_,_,_,_,_,rfl,HE.out.2⟩
 simp[results,Tryz.results146,go_sem,r0,r1,r2]
theorem says2_any (B:Nat→Prop)(x:Ex)(q p:Nat)(c0 c1 c2 c3 c4 c5 c6 c7 c8:Value)(w:World)(hX:XB B w q p x c0 c1 c2 c3 c4 c5 c6 c7 c8)(h16:x.eku.length≤16):
 Calls Tryz.prog 150 #[.pointer (some ⟨q,0,none⟩)] w (NVal (fun g=>w.heap.size≤g) w (saysF x 2)):=by
 have mixed:Tryz.prog.follows Departure.mixedOrders=true:=by kernel_rfl
 obtain⟨W0,hW0⟩:=nm_ (w.alloc (.cells #[.int .u8 0,.slice none 0 0,.slice none 0 0] 49))
 have hb0:Below w.heap.size w W0:=by rw[←hW0];exact below_new _ _
 have p0:W0.heap[w.heap.size]? =some (.cells #[.int .u8 0,.slice none 0 0,.slice none 0 0] 49):=by rw[←hW0];exact heap_new_ _ _
 have hz0:W0.heap.size=w.heap.size+1:=by rw[←hW0];simp
 have hqp:=hX.size
 obtain⟨d0,_,_,_,_,d4,_⟩:=(hX.below hb0).cells
 obtain⟨A4,k4,rfl,i1,i2,i3⟩:=hX.x.eku
 rw[show saysF x 2=.mk 48 [] (([x.eku.map oidN]:List (List Nd)).flatten) from by rw[flat1];rfl]
 have hent:=enters_of Tryz.func152 (by kernel_rfl) rfl
 have hcall:=eachInN B oidN 152 A4 x.eku.length k4 x.eku W0 rfl (i3.below hb0) i1 i2 (by omega) hent
  (fun ys _ W _ c0 hold=>by
    obtain⟨c0',e,A,l,c,rfl,h1,h2,h3,_⟩:=hold
    simp only[List.cons.injEq,and_true] at e
    subst e
    exact objectNode_any A l c ys W h3 h1 h2)
 have hlm:(x.eku.map oidN).length≤1000:=by rw[List.length_map];omega
 obtain⟨L4,hL4⟩:=nm_ (x.eku.length)
 rw[hL4] at hcall d4
 obtain⟨ks,hks⟩:=nm_ (x.eku.map oidN)
 rw[hks] at hcall hlm⊢
 have HC:=hd_ hcall
 have HB:=hd_ (ai_ hb0 (ai_ p0 (ai_ hz0 hlm)))
 clear hb0 p0 hz0 hX hqp hcall i1 i2 i3 h16 hlm hL4 hks
 go_enter Tryz.func150,Tryz.ntmps150
 go_wp2_with fail
 refine HC.out.mono ?_
 rintro e w1 ⟨hb1,A5,c5,rfl,j1,j2,hl5⟩
 have hz:=HB.out.2.2.1
 have hb12:=below_new w1 (.cells #[.slice A5 ks.length c5] 47)
 have hq2:=heap_new_ w1 (.cells #[.slice A5 ks.length c5] 47)
 have hls:Lst (lsE ndE) (fun g=>w.heap.size+1≤g) (w1.alloc (.cells #[.slice A5 ks.length c5] 47)) (some ⟨w1.heap.size,0,none⟩) [ks]:=lst_all hq2 rfl (by have:=hb1.size;omega) (all_one ⟨A5,c5,rfl,j1,j2,(hl5.below hb12).mono (fun g hg=>by omega)⟩)
 have hj:=joined_any (fun g=>w.heap.size+1≤g) 48 _ 1 1 _ _ (by omega) (fun g hg=>by have:=hb1.size;have:=hb12.size;omega) rfl hls (lr_ _) (by unfold maxLen;decide) (by decide) (by rw[flat1];exact HB.out.2.2.2)
 have HJ:=hd_ hj
 have HB1:=hd_ (below_then hb1 hb12 (lr_ _))
 clear hj hls hq2 hb12 hl5 j1 j2 hb1 HC hz d4
 go_wp2_with fail
 refine HJ.out.mono ?_
 rintro e w9 ⟨hb9,t9,B9,m9,n9,K9,u9,v9,rfl,hnF⟩
 have hz:=HB.out.2.2.1
 have hb9:=below_then HB1.out hb9 (lr_ _)
 have hBw:=below_then HB.out.1 hb9 (lr_ _)
 have p9:=(hb9.block w.heap.size (by omega)).trans HB.out.2.1
 obtain⟨r0,r1,r2,hB⟩:=res3 (b:=w.heap.size) (y0:=.int .u8 t9) (y1:=.slice B9 m9 n9) (y2:=.slice K9 u9 v9) (lr_ _) hBw p9
 have hn2:=res3_nd (b:=w.heap.size) (y0:=.int .u8 t9) (y1:=.slice B9 m9 n9) (y2:=.slice K9 u9 v9) (fun g hg=>by omega) hnF
 have f0:=fh_ p9 0
 have f1:=fh_ p9 1
 have f2:=fh_ p9 2
 have s0:=(ch_ p9 0).trans rfl
 have s1:=(ch_ p9 1).trans rfl
 have s2:=(ch_ p9 2).trans rfl
 have HE:=hd_ (ai_ hB (NdC.mono (B':=fun g=>w.heap.size≤g) (fun g hg=>by omega) _ _ _ _ hn2))
 clear hB hn2 hnF p9 hBw hb9 hz HJ HB HB1
 go_wp2_with fail
 refine bodyPost_ret (v:=.agg #[.int .u8 t9,.slice B9 m9 n9,.slice K9 u9 v9]) ?_ rfl ⟨HE.out.1,_,_,_,_,_,_,_,rfl,HE.out.2⟩
 simp[results,Tryz.results150,go_sem,r0,r1,r2]
theorem says0_any (B:Nat→Prop)(x:Ex)(q p:Nat)(c0 c1 c2 c3 c4 c5 c6 c7 c8:Value)(w:World)(hX:XB B w q p x c0 c1 c2 c3 c4 c5 c6 c7 c8):
 Calls Tryz.prog 140 #[.pointer (some ⟨q,0,none⟩)] w (NVal (fun g=>w.heap.size≤g) w (saysF x 0)):=by
 have mixed:Tryz.prog.follows Departure.mixedOrders=true:=by kernel_rfl
 obtain⟨W0,hW0⟩:=nm_ (w.alloc (.cells #[.int .u8 0,.slice none 0 0,.slice none 0 0] 49))
 have hb0:Below w.heap.size w W0:=by rw[←hW0];exact below_new _ _
 have p0:W0.heap[w.heap.size]? =some (.cells #[.int .u8 0,.slice none 0 0,.slice none 0 0] 49):=by rw[←hW0];exact heap_new_ _ _
 have hz0:W0.heap.size=w.heap.size+1:=by rw[←hW0];simp
 have hqp:=hX.size
 have hi:=hX.x.i64
 have HI:=hd_ (show I64 x.path from hi)
 have HX:Hid (∀W,Below W0.heap.size W0 W→W.cell? ⟨q,0,none⟩=some (.pointer (some ⟨p,0,none⟩))∧W.cell? ⟨p,1,none⟩=some (.bool x.ca)∧W.cell? ⟨p,2,none⟩=some (.int .i64 x.path)):=hd_ fun W hW=>by
  obtain⟨e0,_,e1,e2,_⟩:=(hX.below (below_then hb0 hW (lr_ _))).cells
  rw[hX.x.ca] at e1
  rw[hX.x.path] at e2
  exact⟨e0,e1,e2⟩
 obtain⟨d0,d1,d2⟩:=HX.out W0 (br_ _ _)
 have HB:=hd_ (ai_ hb0 (ai_ p0 hz0))
 have HQP:=hd_ hqp
 have HW0:=hd_ hW0
 obtain⟨pb,hpb⟩:=nm_ ((x.ca && decide (x.path≠ -1)))
 clear hW0
 cases hca:x.ca
 ·rw[hca] at d1 HX
  obtain rfl:pb=false:=by rw[←hpb,hca];rfl
  have hext:saysF x 0=.mk 48 [] (([onlyL false truthN,onlyL false (numN x.path)]:List (List Nd)).flatten):=by rw[flat2];show Nd.mk 48 [] (onlyL x.ca truthN++onlyL (x.ca && decide (x.path≠ -1)) (numN x.path))=_;rw[hca];rfl
  rw[hext]
  clear hb0 p0 hz0 hX hqp hext hca hpb hi
  go_enter Tryz.func140,Tryz.ntmps140
  go_wp2_with fail
  try dsimp only
  rw[HW0.out]
  try dsimp only
  refine wp_region_noPanic ?_
  refine wp_region_held_drew (S:=fun wx:World=>wx.cell? ⟨q,0,none⟩=some (.pointer (some ⟨p,0,none⟩))∧wx.cell? ⟨p,1,none⟩=some (.bool false)∧wx.cell? ⟨p,2,none⟩=some (.int .i64 x.path)) mixed ⟨d0,d1,d2⟩ (fun hHeld=>?_)
  have hbd:=below_drew W0
  obtain⟨wd,hwd⟩:=nm_ (W0.drew)
  rw[hwd] at hHeld hbd⊢
  clear hwd
  refine tk_ (i:=0) (z:=?_)
  refine tk_ (i:=6) (z:=?_)
  refine tk_ (i:=17) (z:=?_)
  refine tk_ (i:=1) (z:=?_)
  refine tk_ (i:=7) (z:=?_)
  refine tk_ (i:=18) (z:=?_)
  refine tk_ (i:=2) (z:=?_)
  refine tk_ (i:=8) (z:=?_)
  refine tk_ (i:=19) (z:=?_)
  refine tk_ (i:=3) (z:=?_)
  refine tk_ (i:=9) (z:=?_)
  refine tk_ (i:=20) (z:=?_)
  refine on_ (i:=4) (z:=fun KK hKK=>?_)
  go_simp
  refine(truth_any _).mono ?_
  rintro e w3 ⟨hb3,t3,B3,m3,n3,K3,u3,v3,rfl,hn3⟩
  dsimp only
  have hn3:=NdC.mono (B':=fun g=>w.heap.size+1≤g) (fun g hg=>by have:=hbd.size;have:=HB.out.2.2;omega) _ _ _ _ hn3
  have hb3:=below_then hbd hb3 (lr_ _)
  refine hKK.out _ _ (HX.out _ hb3) (fun hHeld=>?_)
  clear hKK KK
  try simp only[Act.put,qa_,qb_,qc_]
  refine on_ (i:=5) (z:=fun KK hKK=>?_)
  go_simp
  refine(only_any (fun g=>w.heap.size+1≤g) false _ _ _ _ w3 (fun g hg=>by have:=hb3.size;have:=HB.out.2.2;omega) hn3).mono ?_
  rintro e w4 ⟨hb4,A4,k4,rfl,k41,k42,hl4⟩
  dsimp only
  have hb4:=below_then hb3 hb4 (lr_ _)
  refine hKK.out _ _ (HX.out _ hb4) (fun hHeld=>?_)
  clear hKK KK
  try simp only[Act.put,qa_,qb_,qc_]
  refine tk_ (i:=10) (z:=?_)
  (refine wpAnyH_take (i:=11) (oi:=⟨_,_,_,_,_,_⟩) (v:=undef) rfl (by kernel_rfl) (by kernel_rfl) (by kernel_rfl) (fun _ _ _ h=>h) (Or.inr ⟨by kernel_rfl,rfl⟩) (by assumption) ?_;(try simp only[Act.put,qa_,qb_,qc_]))
  (refine wpAnyH_take (i:=12) (oi:=⟨_,_,_,_,_,_⟩) (v:=undef) rfl (by kernel_rfl) (by kernel_rfl) (by kernel_rfl) (fun _ _ _ h=>h) (Or.inr ⟨by kernel_rfl,rfl⟩) (by assumption) ?_;(try simp only[Act.put,qa_,qb_,qc_]))
  (refine wpAnyH_take (i:=13) (oi:=⟨_,_,_,_,_,_⟩) (v:=undef) rfl (by kernel_rfl) (by kernel_rfl) (by kernel_rfl) (fun _ _ _ h=>h) (Or.inr ⟨by kernel_rfl,rfl⟩) (by assumption) ?_;(try simp only[Act.put,qa_,qb_,qc_]))
  (refine wpAnyH_take (i:=14) (oi:=⟨_,_,_,_,_,_⟩) (v:=undef) rfl (by kernel_rfl) (by kernel_rfl) (by kernel_rfl) (fun _ _ _ h=>h) (Or.inr ⟨by kernel_rfl,rfl⟩) (by assumption) ?_;(try simp only[Act.put,qa_,qb_,qc_]))
  (refine wpAnyH_take (i:=15) (oi:=⟨_,_,_,_,_,_⟩) (v:=undef) rfl (by kernel_rfl) (by kernel_rfl) (by kernel_rfl) (fun _ _ _ h=>h) (Or.inr ⟨by kernel_rfl,rfl⟩) (by assumption) ?_;(try simp only[Act.put,qa_,qb_,qc_]))
  refine tk_ (i:=16) (z:=?_)
  refine on_ (i:=21) (z:=fun KK hKK=>?_)
  go_simp
  refine(number_any x.path w4 HI.out).mono ?_
  rintro e w5 ⟨hb5,t5,B5,m5,n5,K5,u5,v5,rfl,hn5⟩
  dsimp only
  have hn5:=NdC.mono (B':=fun g=>w.heap.size+1≤g) (fun g hg=>by have:=hb4.size;have:=HB.out.2.2;omega) _ _ _ _ hn5
  have hb45:=hb5
  have hb5:=below_then hb4 hb5 (lr_ _)
  refine hKK.out _ _ (HX.out _ hb5) (fun hHeld=>?_)
  clear hKK KK
  try simp only[Act.put,qa_,qb_,qc_]
  refine on_ (i:=22) (z:=fun KK hKK=>?_)
  go_simp
  refine(only_any (fun g=>w.heap.size+1≤g) false _ _ _ _ w5 (fun g hg=>by have:=hb5.size;have:=HB.out.2.2;omega) hn5).mono ?_
  rintro e w6 ⟨hb6,A6,k6,rfl,k61,k62,hl6⟩
  dsimp only
  have hb56:=hb6
  have hb6:=below_then hb5 hb6 (lr_ _)
  refine hKK.out _ _ (HX.out _ hb6) (fun hHeld=>?_)
  clear hKK KK
  try simp only[Act.put,qa_,qb_,qc_]
  refine on_ (i:=23) (z:=fun KK hKK=>?_)
  go_simp
  have hb78:=below_new w6 (.cells #[.slice A4 (onlyL false truthN).length k4,.slice A6 (onlyL false (numN x.path)).length k6] 47)
  have hb8:=below_then hb6 hb78 (lr_ _)
  have hq8:=heap_new_ w6 (.cells #[.slice A4 (onlyL false truthN).length k4,.slice A6 (onlyL false (numN x.path)).length k6] 47)
  have hls:Lst (lsE ndE) (fun g=>w.heap.size+1≤g) (w6.alloc (.cells #[.slice A4 (onlyL false truthN).length k4,.slice A6 (onlyL false (numN x.path)).length k6] 47)) (some ⟨w6.heap.size,0,none⟩) [onlyL false truthN,onlyL false (numN x.path)]:=lst_all hq8 rfl (by have:=hb6.size;have:=HB.out.2.2;omega) (all_two ⟨A4,k4,rfl,k41,k42,(hl4.below (below_then hb45 hb56 (lr_ _))).below hb78⟩ ⟨A6,k6,rfl,k61,k62,hl6.below hb78⟩)
  have hlen2:([onlyL false truthN,onlyL false (numN x.path)]:List (List Nd)).flatten.length≤1000:=by
   have i1:=onlyL_len false truthN
   have i2:=onlyL_len false (numN x.path)
   rw[flat2,List.length_append]
   omega
  refine hKK.out _ _ (HX.out _ hb8) (fun hHeld=>?_)
  clear hKK KK
  try simp only[Act.put,qa_,qb_,qc_]
  refine on_ (i:=24) (z:=fun KK hKK=>?_)
  go_simp
  refine(joined_any (fun g=>w.heap.size+1≤g) 48 _ 2 2 _ _ (by omega) (fun g hg=>by have:=hb8.size;have:=HB.out.2.2;omega) rfl hls (lr_ _) (by unfold maxLen;decide) (by decide) hlen2).mono ?_
  rintro e w9 ⟨hb9,t9,B9,m9,n9,K9,u9,v9,rfl,hnF⟩
  dsimp only
  have hb9:=below_then hb8 hb9 (lr_ _)
  refine hKK.out _ _ (HX.out _ hb9) (fun hHeld=>?_)
  clear hKK KK
  try simp only[Act.put,qa_,qb_,qc_]
  have hz:=HB.out.2.2
  have hBw:=below_then HB.out.1 hb9 (lr_ _)
  have p9:=(hb9.block w.heap.size (by omega)).trans HB.out.2.1
  obtain⟨r0,r1,r2,hB⟩:=res3 (b:=w.heap.size) (y0:=.int .u8 t9) (y1:=.slice B9 m9 n9) (y2:=.slice K9 u9 v9) (lr_ _) hBw p9
  have hn2:=res3_nd (b:=w.heap.size) (y0:=.int .u8 t9) (y1:=.slice B9 m9 n9) (y2:=.slice K9 u9 v9) (fun g hg=>by omega) hnF
  have f0:=fh_ p9 0
  have f1:=fh_ p9 1
  have f2:=fh_ p9 2
  have s0:=(ch_ p9 0).trans rfl
  have s1:=(ch_ p9 1).trans rfl
  have s2:=(ch_ p9 2).trans rfl
  have HE:=hd_ (ai_ hB (NdC.mono (B':=fun g=>w.heap.size≤g) (fun g hg=>by omega) _ _ _ _ hn2))
  have hoth: ∀g,g≠w.heap.size→(((w9.setCell ⟨w.heap.size,0,none⟩ (.int .u8 t9)).setCell ⟨w.heap.size,1,none⟩ (.slice B9 m9 n9)).setCell ⟨w.heap.size,2,none⟩ (.slice K9 u9 v9)).heap[g]? =w9.heap[g]? :=fun g hg=>set3_other w9 _ _ _ _ hg
  obtain⟨z0,z1,z2⟩:=HX.out _ hb9
  have hcb:=ai_ ((cell_same (hoth q (by have:=HQP.out;omega))).trans z0) (ai_ ((cell_same (hoth p (by have:=HQP.out;omega))).trans z1) ((cell_same (hoth p (by have:=HQP.out;omega))).trans z2))
  refine on_ (i:=25) (z:=fun KK hKK=>?_)
  go_simp
  refine hKK.out _ _ hcb (fun hHeld=>?_)
  clear hKK KK
  try simp only[Act.put,qa_,qb_,qc_]
  refine wpAnyH_done (by kernel_rfl) ?_ _
  refine NoPanic.normal ?_
  clear hHeld hcb z0 z1 z2 s0 s1 s2 f0 f1 f2 p9 hoth hb3 hb4 hb5 hb6 hb8 hb9 hb45 hb56 hb78 hq8 hls hbd hBw hB hn2 hnF hn3 hn5 hl4 hl6 k41 k42 k61 k62 hlen2 hz d0 d1 d2
  go_wp2_with fail
  refine bodyPost_ret (v:=.agg #[.int .u8 t9,.slice B9 m9 n9,.slice K9 u9 v9]) ?_ rfl ⟨HE.out.1,_,_,_,_,_,_,_,rfl,HE.out.2⟩
  simp[results,Tryz.results140,go_sem,r0,r1,r2]
 ·rw[hca] at d1 HX
  have hpd:decide (x.path≠ -1)=pb:=by rw[←hpb,hca];rfl
  have hpd':(true && decide (x.path≠ -1))=pb:=by rw[←hpb,hca]
  have hpd2:(x.path != -1)=pb:=by rw[←hpd];rw[Bool.eq_iff_iff];simp
  have hext:saysF x 0=.mk 48 [] (([onlyL true truthN,onlyL pb (numN x.path)]:List (List Nd)).flatten):=by rw[flat2];show Nd.mk 48 [] (onlyL x.ca truthN++onlyL (x.ca && decide (x.path≠ -1)) (numN x.path))=_;rw[hca];rw[hpd']
  rw[hext]
  clear hb0 p0 hz0 hX hqp hext hca hpb hi
  go_enter Tryz.func140,Tryz.ntmps140
  go_wp2_with fail
  try dsimp only
  rw[HW0.out]
  try dsimp only
  refine wp_region_noPanic ?_
  refine wp_region_held_drew (S:=fun wx:World=>wx.cell? ⟨q,0,none⟩=some (.pointer (some ⟨p,0,none⟩))∧wx.cell? ⟨p,1,none⟩=some (.bool true)∧wx.cell? ⟨p,2,none⟩=some (.int .i64 x.path)) mixed ⟨d0,d1,d2⟩ (fun hHeld=>?_)
  have hbd:=below_drew W0
  obtain⟨wd,hwd⟩:=nm_ (W0.drew)
  rw[hwd] at hHeld hbd⊢
  clear hwd
  refine tk_ (i:=0) (z:=?_)
  refine tk_ (i:=6) (z:=?_)
  refine tk_ (i:=17) (z:=?_)
  refine tk_ (i:=1) (z:=?_)
  refine tk_ (i:=7) (z:=?_)
  refine tk_ (i:=18) (z:=?_)
  refine tk_ (i:=2) (z:=?_)
  refine tk_ (i:=8) (z:=?_)
  refine tk_ (i:=19) (z:=?_)
  refine tk_ (i:=3) (z:=?_)
  refine tk_ (i:=9) (z:=?_)
  refine tk_ (i:=20) (z:=?_)
  refine on_ (i:=4) (z:=fun KK hKK=>?_)
  go_simp
  refine(truth_any _).mono ?_
  rintro e w3 ⟨hb3,t3,B3,m3,n3,K3,u3,v3,rfl,hn3⟩
  dsimp only
  have hn3:=NdC.mono (B':=fun g=>w.heap.size+1≤g) (fun g hg=>by have:=hbd.size;have:=HB.out.2.2;omega) _ _ _ _ hn3
  have hb3:=below_then hbd hb3 (lr_ _)
  refine hKK.out _ _ (HX.out _ hb3) (fun hHeld=>?_)
  clear hKK KK
  try simp only[Act.put,qa_,qb_,qc_]
  refine on_ (i:=5) (z:=fun KK hKK=>?_)
  go_simp
  refine(only_any (fun g=>w.heap.size+1≤g) true _ _ _ _ w3 (fun g hg=>by have:=hb3.size;have:=HB.out.2.2;omega) hn3).mono ?_
  rintro e w4 ⟨hb4,A4,k4,rfl,k41,k42,hl4⟩
  dsimp only
  have hb4:=below_then hb3 hb4 (lr_ _)
  refine hKK.out _ _ (HX.out _ hb4) (fun hHeld=>?_)
  clear hKK KK
  try simp only[Act.put,qa_,qb_,qc_]
  refine tk_ (i:=10) (z:=?_)
  (refine wpAnyH_take (i:=11) (oi:=⟨_,_,_,_,_,_⟩) (v:=?_) rfl (by kernel_rfl) (by kernel_rfl) (by kernel_rfl) (fun _ _ _ h=>h) (Or.inl ⟨by kernel_rfl,?_⟩) (by assumption) ?_;rotate_left;focus (intro wS hSw;(first |obtain⟨e1,e2,e3⟩:=hSw |skip);go_simp;(try with_reducible rfl);done);(try simp only[Act.put,qa_,qb_,qc_]))
  (refine wpAnyH_take (i:=12) (oi:=⟨_,_,_,_,_,_⟩) (v:=?_) rfl (by kernel_rfl) (by kernel_rfl) (by kernel_rfl) (fun _ _ _ h=>h) (Or.inl ⟨by kernel_rfl,?_⟩) (by assumption) ?_;rotate_left;focus (intro wS hSw;(first |obtain⟨e1,e2,e3⟩:=hSw |skip);go_simp;(try with_reducible rfl);done);(try simp only[Act.put,qa_,qb_,qc_]))
  (refine wpAnyH_take (i:=13) (oi:=⟨_,_,_,_,_,_⟩) (v:=?_) rfl (by kernel_rfl) (by kernel_rfl) (by kernel_rfl) (fun _ _ _ h=>h) (Or.inl ⟨by kernel_rfl,?_⟩) (by assumption) ?_;rotate_left;focus (intro wS hSw;(first |obtain⟨e1,e2,e3⟩:=hSw |skip);go_simp;(try with_reducible rfl);done);(try simp only[Act.put,qa_,qb_,qc_]))
  (refine wpAnyH_take (i:=14) (oi:=⟨_,_,_,_,_,_⟩) (v:=?_) rfl (by kernel_rfl) (by kernel_rfl) (by kernel_rfl) (fun _ _ _ h=>h) (Or.inl ⟨by kernel_rfl,?_⟩) (by assumption) ?_;rotate_left;focus (intro wS hSw;(first |obtain⟨e1,e2,e3⟩:=hSw |skip);go_simp;(try with_reducible rfl);done);(try simp only[Act.put,qa_,qb_,qc_]))
  (refine wpAnyH_take (i:=15) (oi:=⟨_,_,_,_,_,_⟩) (v:=?_) rfl (by kernel_rfl) (by kernel_rfl) (by kernel_rfl) (fun _ _ _ h=>h) (Or.inl ⟨by kernel_rfl,?_⟩) (by assumption) ?_;rotate_left;focus (intro wS hSw;(first |obtain⟨e1,e2,e3⟩:=hSw |skip);go_simp;(try with_reducible rfl);done);(try simp only[Act.put,qa_,qb_,qc_]))
  refine tk_ (i:=16) (z:=?_)
  refine on_ (i:=21) (z:=fun KK hKK=>?_)
  go_simp
  refine(number_any x.path w4 HI.out).mono ?_
  rintro e w5 ⟨hb5,t5,B5,m5,n5,K5,u5,v5,rfl,hn5⟩
  dsimp only
  have hn5:=NdC.mono (B':=fun g=>w.heap.size+1≤g) (fun g hg=>by have:=hb4.size;have:=HB.out.2.2;omega) _ _ _ _ hn5
  have hb45:=hb5
  have hb5:=below_then hb4 hb5 (lr_ _)
  refine hKK.out _ _ (HX.out _ hb5) (fun hHeld=>?_)
  clear hKK KK
  try simp only[Act.put,qa_,qb_,qc_]
  refine on_ (i:=22) (z:=fun KK hKK=>?_)
  go_simp
  refine(only_any (fun g=>w.heap.size+1≤g) pb _ _ _ _ w5 (fun g hg=>by have:=hb5.size;have:=HB.out.2.2;omega) hn5).mono ?_
  rintro e w6 ⟨hb6,A6,k6,rfl,k61,k62,hl6⟩
  dsimp only
  have hb56:=hb6
  have hb6:=below_then hb5 hb6 (lr_ _)
  refine hKK.out _ _ (HX.out _ hb6) (fun hHeld=>?_)
  clear hKK KK
  try simp only[Act.put,qa_,qb_,qc_]
  refine on_ (i:=23) (z:=fun KK hKK=>?_)
  go_simp
  have hb78:=below_new w6 (.cells #[.slice A4 (onlyL true truthN).length k4,.slice A6 (onlyL pb (numN x.path)).length k6] 47)
  have hb8:=below_then hb6 hb78 (lr_ _)
  have hq8:=heap_new_ w6 (.cells #[.slice A4 (onlyL true truthN).length k4,.slice A6 (onlyL pb (numN x.path)).length k6] 47)
  have hls:Lst (lsE ndE) (fun g=>w.heap.size+1≤g) (w6.alloc (.cells #[.slice A4 (onlyL true truthN).length k4,.slice A6 (onlyL pb (numN x.path)).length k6] 47)) (some ⟨w6.heap.size,0,none⟩) [onlyL true truthN,onlyL pb (numN x.path)]:=lst_all hq8 rfl (by have:=hb6.size;have:=HB.out.2.2;omega) (all_two ⟨A4,k4,rfl,k41,k42,(hl4.below (below_then hb45 hb56 (lr_ _))).below hb78⟩ ⟨A6,k6,rfl,k61,k62,hl6.below hb78⟩)
  have hlen2:([onlyL true truthN,onlyL pb (numN x.path)]:List (List Nd)).flatten.length≤1000:=by
   have i1:=onlyL_len true truthN
   have i2:=onlyL_len pb (numN x.path)
   rw[flat2,List.length_append]
   omega
  refine hKK.out _ _ (HX.out _ hb8) (fun hHeld=>?_)
  clear hKK KK
  try simp only[Act.put,qa_,qb_,qc_]
  refine on_ (i:=24) (z:=fun KK hKK=>?_)
  go_simp
  refine(joined_any (fun g=>w.heap.size+1≤g) 48 _ 2 2 _ _ (by omega) (fun g hg=>by have:=hb8.size;have:=HB.out.2.2;omega) rfl hls (lr_ _) (by unfold maxLen;decide) (by decide) hlen2).mono ?_
  rintro e w9 ⟨hb9,t9,B9,m9,n9,K9,u9,v9,rfl,hnF⟩
  dsimp only
  have hb9:=below_then hb8 hb9 (lr_ _)
  refine hKK.out _ _ (HX.out _ hb9) (fun hHeld=>?_)
  clear hKK KK
  try simp only[Act.put,qa_,qb_,qc_]
  have hz:=HB.out.2.2
  have hBw:=below_then HB.out.1 hb9 (lr_ _)
  have p9:=(hb9.block w.heap.size (by omega)).trans HB.out.2.1
  obtain⟨r0,r1,r2,hB⟩:=res3 (b:=w.heap.size) (y0:=.int .u8 t9) (y1:=.slice B9 m9 n9) (y2:=.slice K9 u9 v9) (lr_ _) hBw p9
  have hn2:=res3_nd (b:=w.heap.size) (y0:=.int .u8 t9) (y1:=.slice B9 m9 n9) (y2:=.slice K9 u9 v9) (fun g hg=>by omega) hnF
  have f0:=fh_ p9 0
  have f1:=fh_ p9 1
  have f2:=fh_ p9 2
  have s0:=(ch_ p9 0).trans rfl
  have s1:=(ch_ p9 1).trans rfl
  have s2:=(ch_ p9 2).trans rfl
  have HE:=hd_ (ai_ hB (NdC.mono (B':=fun g=>w.heap.size≤g) (fun g hg=>by omega) _ _ _ _ hn2))
  have hoth: ∀g,g≠w.heap.size→(((w9.setCell ⟨w.heap.size,0,none⟩ (.int .u8 t9)).setCell ⟨w.heap.size,1,none⟩ (.slice B9 m9 n9)).setCell ⟨w.heap.size,2,none⟩ (.slice K9 u9 v9)).heap[g]? =w9.heap[g]? :=fun g hg=>set3_other w9 _ _ _ _ hg
  obtain⟨z0,z1,z2⟩:=HX.out _ hb9
  have hcb:=ai_ ((cell_same (hoth q (by have:=HQP.out;omega))).trans z0) (ai_ ((cell_same (hoth p (by have:=HQP.out;omega))).trans z1) ((cell_same (hoth p (by have:=HQP.out;omega))).trans z2))
  refine on_ (i:=25) (z:=fun KK hKK=>?_)
  go_simp
  refine hKK.out _ _ hcb (fun hHeld=>?_)
  clear hKK KK
  try simp only[Act.put,qa_,qb_,qc_]
  refine wpAnyH_done (by kernel_rfl) ?_ _
  refine NoPanic.normal ?_
  clear hHeld hcb z0 z1 z2 s0 s1 s2 f0 f1 f2 p9 hoth hb3 hb4 hb5 hb6 hb8 hb9 hb45 hb56 hb78 hq8 hls hbd hBw hB hn2 hnF hn3 hn5 hl4 hl6 k41 k42 k61 k62 hlen2 hz d0 d1 d2
  go_wp2_with fail
  refine bodyPost_ret (v:=.agg #[.int .u8 t9,.slice B9 m9 n9,.slice K9 u9 v9]) ?_ rfl ⟨HE.out.1,_,_,_,_,_,_,_,rfl,HE.out.2⟩
  simp[results,Tryz.results140,go_sem,r0,r1,r2]
end Go.Proofs.YtjanfogifehhmaaGreatDoor.nmc
