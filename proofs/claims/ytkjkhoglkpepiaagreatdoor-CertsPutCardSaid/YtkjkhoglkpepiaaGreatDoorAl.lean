/- The program's closures that tell what the extensions of prin -/
import Derived.Test.YtkjkhoglkpepiaaGreatDoorAk
set_option maxRecDepth 100000
set_option maxHeartbeats 8000000
set_option linter.unusedVariables false
set_option linter.unusedSimpArgs false
namespace Go.Proofs.YtkjkhoglkpepiaaGreatDoor.nmc
open Go.RowKit tlvc tlvd ndc txc txm intc intm
theorem says3_any (B:Nat→Prop)(x:Ex)(q p:Nat)(c0 c1 c2 c3 c4 c5 c6 c7 c8:Value)(w:World)(hX:XB B w q p x c0 c1 c2 c3 c4 c5 c6 c7 c8)(h16:x.princs.length≤16)(hT:Tabs w):
 Calls Tryz.prog 125 #[.pointer (some ⟨q,0,none⟩)] w (NVal (fun g=>w.heap.size≤g) w (saysF x 3)):=by
 have mixed:Tryz.prog.follows Departure.mixedOrders=true:=by kernel_rfl
 obtain⟨W0,hW0⟩:=nm_ (w.alloc (.cells #[.int .u8 0,.slice none 0 0,.slice none 0 0] 43))
 have hb0:Below w.heap.size w W0:=by rw[←hW0];exact below_new _ _
 have p0:W0.heap[w.heap.size]? =some (.cells #[.int .u8 0,.slice none 0 0,.slice none 0 0] 43):=by rw[←hW0];exact heap_new_ _ _
 have hz0:W0.heap.size=w.heap.size+1:=by rw[←hW0];simp
 have hqp:=hX.size
 obtain⟨A4,k4,rfl,i1,i2,i3⟩:=hX.x.princs
 obtain⟨L4,hL4⟩:=nm_ (x.princs.length)
 have HX:Hid (∀W,Below W0.heap.size W0 W→W.cell? ⟨q,0,none⟩=some (.pointer (some ⟨p,0,none⟩))∧W.cell? ⟨p,5,none⟩=some (.slice A4 L4 k4)):=hd_ fun W hW=>by
  obtain⟨e0,_,_,_,_,_,e5,_⟩:=(hX.below (below_then hb0 hW (lr_ _))).cells
  rw[hL4] at e5
  exact⟨e0,e5⟩
 obtain⟨d0,d5⟩:=HX.out W0 (br_ _ _)
 rw[hL4] at i1 h16
 have hent:=enters_of Tryz.func178 (by kernel_rfl) rfl
 have HEA:=hd_ (fun(qq:Nat) (W:World) (hW:Below w.heap.size w W) (hq:W.heap[qq]? =some (.cells #[.func (.func 128) #[] #[]] 168))=>
  eachPrN B princZ 178 (.pointer (some ⟨qq,0,none⟩)) A4 L4 k4 x.princs W hL4 (i3.below hW) i1 i2 (by omega) hent
   (fun y _ V hV c0 c1 hold=>by
     obtain⟨c0',c1',e,hp⟩:=hold
     simp only[List.cons.injEq,and_true] at e
     obtain⟨rfl,rfl⟩:=e
     exact princZ_any B y c0 c1 qq V hp ((hV.block qq (Array.getElem?_eq_some_iff.1 hq).1).trans hq) (hT.below (below_then hW hV (lr_ _)))))
 have hlm:(x.princs.map princZ).length≤1000:=by rw[List.length_map];omega
 rw[show saysF x 3=.mk 48 [] (([x.princs.map princZ]:List (List Nd)).flatten) from by rw[flat1];rfl]
 obtain⟨ks,hks⟩:=nm_ (x.princs.map princZ)
 rw[hks] at HEA hlm⊢
 have HB:=hd_ (ai_ hb0 (ai_ p0 (ai_ hz0 hlm)))
 have HQP:=hd_ hqp
 have HW0:=hd_ hW0
 clear hb0 p0 hz0 hX hqp i1 i2 i3 h16 hlm hL4 hks hW0 hT hent
 go_enter Tryz.func125,Tryz.ntmps125
 go_wp2_with fail
 try dsimp only
 rw[HW0.out]
 try dsimp only
 refine wp_region_noPanic ?_
 refine wp_region_held_drew (S:=fun wx:World=>wx.cell? ⟨q,0,none⟩=some (.pointer (some ⟨p,0,none⟩))∧wx.cell? ⟨p,5,none⟩=some (.slice A4 L4 k4)) mixed ⟨d0,d5⟩ (fun hHeld=>?_)
 have hbd:=below_drew W0
 obtain⟨wd,hwd⟩:=nm_ (W0.drew)
 rw[hwd] at hHeld hbd⊢
 clear hwd
 refine tk_ (i:=0) (z:=?_)
 refine tk_ (i:=1) (z:=?_)
 refine tk_ (i:=2) (z:=?_)
 refine tk_ (i:=3) (z:=?_)
 refine on_ (i:=4) (z:=fun KK hKK=>?_)
 go_simp
 refine(orZP_any wd).mono ?_
 rintro e w3 ⟨q3,rfl,hq3,hq3b,hb3⟩
 dsimp only
 have hb3:=below_then hbd hb3 (lr_ _)
 refine hKK.out _ _ (HX.out _ hb3) (fun hHeld=>?_)
 clear hKK KK
 try simp only[Act.put,qa_,qb_,qc_]
 refine on_ (i:=5) (z:=fun KK hKK=>?_)
 go_simp
 refine(HEA.out q3 w3 (below_then HB.out.1 hb3 (lr_ _)) hq3).mono ?_
 rintro e w4 ⟨hb4,A5,c5,rfl,j1,j2,hl5⟩
 dsimp only
 have hl5:=hl5.mono (S':=fun g=>w.heap.size+1≤g) (fun g hg=>by have:=hb3.size;have:=HB.out.2.2.1;omega)
 have hb4:=below_then hb3 hb4 (lr_ _)
 refine hKK.out _ _ (HX.out _ hb4) (fun hHeld=>?_)
 clear hKK KK
 try simp only[Act.put,qa_,qb_,qc_]
 refine on_ (i:=6) (z:=fun KK hKK=>?_)
 go_simp
 have hb78:=below_new w4 (.cells #[.slice A5 ks.length c5] 41)
 have hb8:=below_then hb4 hb78 (lr_ _)
 have hq8:=heap_new_ w4 (.cells #[.slice A5 ks.length c5] 41)
 have hls:Lst (lsE ndE) (fun g=>w.heap.size+1≤g) (w4.alloc (.cells #[.slice A5 ks.length c5] 41)) (some ⟨w4.heap.size,0,none⟩) [ks]:=lst_all hq8 rfl (by have:=hb4.size;have:=HB.out.2.2.1;omega) (all_one ⟨A5,c5,rfl,j1,j2,hl5.below hb78⟩)
 refine hKK.out _ _ (HX.out _ hb8) (fun hHeld=>?_)
 clear hKK KK
 try simp only[Act.put,qa_,qb_,qc_]
 refine on_ (i:=7) (z:=fun KK hKK=>?_)
 go_simp
 refine(joined_any (fun g=>w.heap.size+1≤g) 48 _ 1 1 _ _ (by omega) (fun g hg=>by have:=hb8.size;have:=HB.out.2.2.1;omega) rfl hls (lr_ _) (by unfold maxLen;decide) (by decide) (by rw[flat1];exact HB.out.2.2.2)).mono ?_
 rintro e w9 ⟨hb9,t9,B9,m9,n9,K9,u9,v9,rfl,hnF⟩
 dsimp only
 have hb9:=below_then hb8 hb9 (lr_ _)
 refine hKK.out _ _ (HX.out _ hb9) (fun hHeld=>?_)
 clear hKK KK
 try simp only[Act.put,qa_,qb_,qc_]
 have hz:=HB.out.2.2.1
 have hBw:=below_then HB.out.1 hb9 (lr_ _)
 have p9:=(hb9.block w.heap.size (by omega)).trans HB.out.2.1
 obtain⟨r0,r1,r2,hB⟩:=res3 (b:=w.heap.size) (y0:=.int .u8 t9) (y1:=.slice B9 m9 n9) (y2:=.slice K9 u9 v9) (lr_ _) hBw p9
 have hn2:=res3_nd (b:=w.heap.size) (y0:=.int .u8 t9) (y1:=.slice B9 m9 n9) (y2:=.slice K9 u9 v9) (fun g hg=>by omega) hnF
 have f0:=fh_ p9 0
 have f1:=fh_ p9 1
 have f2:=fh_ p9 2
 have s0:=(ch_ p9 0).trans rfl
 have s1:=(ch_ p9 1).trans rfl
 have s2:=(ch_ p9 2).trans rfl
 have HE:=hd_ (ai_ hB (NdC.mono (B':=fun g=>w.heap.size≤g) (fun g hg=>by omega) _ _ _ _ hn2))
 have hoth: ∀g,g≠w.heap.size→(((w9.setCell ⟨w.heap.size,0,none⟩ (.int .u8 t9)).setCell ⟨w.heap.size,1,none⟩ (.slice B9 m9 n9)).setCell ⟨w.heap.size,2,none⟩ (.slice K9 u9 v9)).heap[g]? =w9.heap[g]? :=fun g hg=>set3_other w9 _ _ _ _ hg
 obtain⟨z0,z1⟩:=HX.out _ hb9
 have hcb:=ai_ ((cell_same (hoth q (by have:=HQP.out;omega))).trans z0) ((cell_same (hoth p (by have:=HQP.out;omega))).trans z1)
 refine on_ (i:=8) (z:=fun KK hKK=>?_)
 go_simp
 refine hKK.out _ _ hcb (fun hHeld=>?_)
 clear hKK KK
 try simp only[Act.put,qa_,qb_,qc_]
 refine wpAnyH_done (by kernel_rfl) ?_ _
 refine NoPanic.normal ?_
 clear hHeld hcb z0 z1 s0 s1 s2 f0 f1 f2 p9 hoth hb3 hb4 hb8 hb9 hb78 hq8 hls hbd hBw hB hn2 hnF hl5 j1 j2 hz hq3 hq3b d0 d5
 go_wp2_with fail
 refine bodyPost_ret (v:=.agg #[.int .u8 t9,.slice B9 m9 n9,.slice K9 u9 v9]) ?_ rfl ⟨HE.out.1,_,_,_,_,_,_,_,rfl,HE.out.2⟩
 simp[results,Tryz.results125,go_sem,r0,r1,r2]
theorem says4_any (B:Nat→Prop)(x:Ex)(q p:Nat)(c0 c1 c2 c3 c4 c5 c6 c7 c8:Value)(w:World)(hX:XB B w q p x c0 c1 c2 c3 c4 c5 c6 c7 c8)(h16:x.permit.length≤16∧x.exclude.length≤16)(hT:Tabs w):
 Calls Tryz.prog 133 #[.pointer (some ⟨q,0,none⟩)] w (NVal (fun g=>w.heap.size≤g) w (saysF x 4)):=by
 have mixed:Tryz.prog.follows Departure.mixedOrders=true:=by kernel_rfl
 obtain⟨W0,hW0⟩:=nm_ (w.alloc (.cells #[.int .u8 0,.slice none 0 0,.slice none 0 0] 43))
 have hb0:Below w.heap.size w W0:=by rw[←hW0];exact below_new _ _
 have p0:W0.heap[w.heap.size]? =some (.cells #[.int .u8 0,.slice none 0 0,.slice none 0 0] 43):=by rw[←hW0];exact heap_new_ _ _
 have hz0:W0.heap.size=w.heap.size+1:=by rw[←hW0];simp
 have hqp:=hX.size
 obtain⟨A4,k4,rfl,i1,i2,i3⟩:=hX.x.permit
 obtain⟨A6,k6,rfl,j1,j2,j3⟩:=hX.x.exclude
 obtain⟨L4,hL4⟩:=nm_ (x.permit.length)
 obtain⟨L6,hL6⟩:=nm_ (x.exclude.length)
 have HX:Hid (∀W,Below W0.heap.size W0 W→W.cell? ⟨q,0,none⟩=some (.pointer (some ⟨p,0,none⟩))∧W.cell? ⟨p,6,none⟩=some (.slice A4 L4 k4)∧W.cell? ⟨p,7,none⟩=some (.slice A6 L6 k6)):=hd_ fun W hW=>by
  obtain⟨e0,_,_,_,_,_,_,e6,e7,_⟩:=(hX.below (below_then hb0 hW (lr_ _))).cells
  rw[hL4] at e6
  rw[hL6] at e7
  exact⟨e0,e6,e7⟩
 obtain⟨d0,d6,d7⟩:=HX.out W0 (br_ _ _)
 rw[hL4] at i1 h16
 rw[hL6] at j1 h16
 have hent:=enters_of Tryz.func185 (by kernel_rfl) rfl
 have HEA4:=hd_ (fun(qq:Nat) (W:World) (hW:Below w.heap.size w W) (hq:W.heap[qq]? =some (.cells #[.func (.func 21) #[] #[]] 56))=>
  eachNmN B nameZ 185 (.pointer (some ⟨qq,0,none⟩)) A4 L4 k4 x.permit W hL4 (i3.below hW) i1 i2 (by omega) hent
   (fun y _ V hV c0 hold=>by
     obtain⟨c0',e,A,c,rfl,h1,h2,h3⟩:=hold
     simp only[List.cons.injEq,and_true] at e
     subst e
     exact nameZ_any B y A y.length c qq V rfl h3 h1 h2 ((hV.block qq (Array.getElem?_eq_some_iff.1 hq).1).trans hq) (hT.below (below_then hW hV (lr_ _)))))
 have HEA6:=hd_ (fun(qq:Nat) (W:World) (hW:Below w.heap.size w W) (hq:W.heap[qq]? =some (.cells #[.func (.func 21) #[] #[]] 56))=>
  eachNmN B nameZ 185 (.pointer (some ⟨qq,0,none⟩)) A6 L6 k6 x.exclude W hL6 (j3.below hW) j1 j2 (by omega) hent
   (fun y _ V hV c0 hold=>by
     obtain⟨c0',e,A,c,rfl,h1,h2,h3⟩:=hold
     simp only[List.cons.injEq,and_true] at e
     subst e
     exact nameZ_any B y A y.length c qq V rfl h3 h1 h2 ((hV.block qq (Array.getElem?_eq_some_iff.1 hq).1).trans hq) (hT.below (below_then hW hV (lr_ _)))))
 have hl4:(x.permit.map nameZ).length=L4:=by rw[List.length_map,hL4]
 have hl6:(x.exclude.map nameZ).length=L6:=by rw[List.length_map,hL6]
 obtain⟨pb,hpb⟩:=nm_ (decide (0<L4))
 obtain⟨eb,heb⟩:=nm_ (decide (0<L6))
 have hpb2:decide ((0:Int)< (L4:Int))=pb:=by rw[←hpb];exact decide_eq_decide.2 (by omega)
 have heb2:decide ((0:Int)< (L6:Int))=eb:=by rw[←heb];exact decide_eq_decide.2 (by omega)
 have hsay:saysF x 4=.mk 48 [] (([onlyL pb (.mk 160 [] (x.permit.map nameZ)),onlyL eb (.mk 161 [] (x.exclude.map nameZ))]:List (List Nd)).flatten):=by
  rw[flat2]
  show Nd.mk 48 [] (onlyL (decide (0<x.permit.length)) _++onlyL (decide (0<x.exclude.length)) _)=_
  rw[hL4,hL6,hpb,heb]
 rw[hsay]
 obtain⟨ks,hks⟩:=nm_ (x.permit.map nameZ)
 obtain⟨ms,hms⟩:=nm_ (x.exclude.map nameZ)
 rw[hks] at HEA4 hl4⊢
 rw[hms] at HEA6 hl6⊢
 have HB:=hd_ (ai_ hb0 (ai_ p0 (ai_ hz0 (ai_ hl4 (ai_ hl6 h16)))))
 have HQP:=hd_ hqp
 have HW0:=hd_ hW0
 clear hb0 p0 hz0 hX hqp i1 i2 i3 j1 j2 j3 h16 hl4 hl6 hL4 hL6 hks hms hW0 hT hent hsay
 go_enter Tryz.func133,Tryz.ntmps133
 go_wp2_with fail
 try dsimp only
 rw[HW0.out]
 try dsimp only
 refine wp_region_noPanic ?_
 refine wp_region_held_drew (S:=fun wx:World=>wx.cell? ⟨q,0,none⟩=some (.pointer (some ⟨p,0,none⟩))∧wx.cell? ⟨p,6,none⟩=some (.slice A4 L4 k4)∧wx.cell? ⟨p,7,none⟩=some (.slice A6 L6 k6)) mixed ⟨d0,d6,d7⟩ (fun hHeld=>?_)
 have hbd:=below_drew W0
 obtain⟨wd,hwd⟩:=nm_ (W0.drew)
 rw[hwd] at hHeld hbd⊢
 clear hwd
 refine tk_ (i:=0) (z:=?_)
 refine tk_ (i:=6) (z:=?_)
 refine tk_ (i:=1) (z:=?_)
 refine tk_ (i:=7) (z:=?_)
 refine tk_ (i:=2) (z:=?_)
 refine tk_ (i:=8) (z:=?_)
 refine tk_ (i:=3) (z:=?_)
 refine tk_ (i:=9) (z:=?_)
 refine on_ (i:=4) (z:=fun KK hKK=>?_)
 go_simp
 refine(orZN_any wd).mono ?_
 rintro e w3 ⟨q3,rfl,hq3,hq3b,hb3⟩
 dsimp only
 have hb3:=below_then hbd hb3 (lr_ _)
 refine hKK.out _ _ (HX.out _ hb3) (fun hHeld=>?_)
 clear hKK KK
 try simp only[Act.put,qa_,qb_,qc_]
 refine on_ (i:=5) (z:=fun KK hKK=>?_)
 go_simp
 refine(HEA4.out q3 w3 (below_then HB.out.1 hb3 (lr_ _)) hq3).mono ?_
 rintro e w4 ⟨hb4,A5,c5,rfl,j1,j2,hl5⟩
 dsimp only
 rw[HB.out.2.2.2.1] at j1
 have hl5:=hl5.mono (S':=fun g=>w.heap.size+1≤g) (fun g hg=>by have:=hb3.size;have:=HB.out.2.2.1;omega)
 have hb4:=below_then hb3 hb4 (lr_ _)
 refine hKK.out _ _ (HX.out _ hb4) (fun hHeld=>?_)
 clear hKK KK
 try simp only[Act.put,qa_,qb_,qc_]
 refine on_ (i:=10) (z:=fun KK hKK=>?_)
 go_simp
 refine(orZN_any w4).mono ?_
 rintro e w5 ⟨q5,rfl,hq5,hq5b,hb5⟩
 dsimp only
 have hb45:=hb5
 have hb5:=below_then hb4 hb5 (lr_ _)
 refine hKK.out _ _ (HX.out _ hb5) (fun hHeld=>?_)
 clear hKK KK
 try simp only[Act.put,qa_,qb_,qc_]
 refine on_ (i:=11) (z:=fun KK hKK=>?_)
 go_simp
 refine(HEA6.out q5 w5 (below_then HB.out.1 hb5 (lr_ _)) hq5).mono ?_
 rintro e w6 ⟨hb6,A7,c7,rfl,m1,m2,hl7⟩
 dsimp only
 rw[HB.out.2.2.2.2.1] at m1
 have hl7:=hl7.mono (S':=fun g=>w.heap.size+1≤g) (fun g hg=>by have:=hb5.size;have:=HB.out.2.2.1;omega)
 have hl5:=(hl5.below hb45).below hb6
 have hb6:=below_then hb5 hb6 (lr_ _)
 refine hKK.out _ _ (HX.out _ hb6) (fun hHeld=>?_)
 clear hKK KK
 try simp only[Act.put,qa_,qb_,qc_]
 refine tk_ (i:=12) (z:=?_)
 refine tk_ (i:=13) (z:=?_)
 refine wpAnyH_done (by kernel_rfl) ?_ _
 refine NoPanic.normal ?_
 rw[HB.out.2.2.2.1,HB.out.2.2.2.2.1]
 have H6:=hd_ (ai_ hb6 (ai_ hl5 (ai_ hl7 (ai_ j1 (ai_ j2 (ai_ m1 m2))))))
 clear hHeld hb3 hb4 hb5 hb6 hbd hb45 hl5 hl7 j1 j2 m1 m2 hq3 hq3b hq5 hq5b d0 d6 d7 HEA4 HEA6
 have hz:=HB.out.2.2.1
 have hzb:=H6.out.1.size
 have hba:=below_new w6 (.cells #[.slice A5 L4 c5] 41)
 have hja:=joined_any (fun g=>w.heap.size+1≤g) 160 (some ⟨w6.heap.size,0,none⟩) 1 1 [ks] (w6.alloc (.cells #[.slice A5 L4 c5] 41)) (by omega) (fun g hg=>by have:=hba.size;omega) rfl
  (lst_all (heap_new_ w6 (.cells #[.slice A5 L4 c5] 41)) rfl (by omega) (all_one ⟨A5,c5,by rw[HB.out.2.2.2.1],by rw[HB.out.2.2.2.1];exact H6.out.2.2.2.1,H6.out.2.2.2.2.1,H6.out.2.1.below hba⟩)) (lr_ _) (by unfold maxLen;decide) (by decide) (by rw[flat1,HB.out.2.2.2.1];have:=HB.out.2.2.2.2.2.1;omega)
 rw[flat1] at hja
 have HJA:=hd_ hja
 have H7:=hd_ (below_then H6.out.1 hba (lr_ _))
 have H7b:=hd_ (H6.out.2.2.1.below hba)
 clear hja hba hz hzb
 go_wp2_with fail
 refine HJA.out.mono ?_
 rintro e wa ⟨hbA,ta,Ba,ma,na,Ka,ua,va,rfl,hna⟩
 have hza:=(below_then H7.out hbA (lr_ _)).size
 have hz:=HB.out.2.2.1
 have HOA:=hd_ (only_any (fun g=>w.heap.size+1≤g) pb _ _ _ _ wa (fun g hg=>by omega) hna)
 have H8:=hd_ (ai_ (below_then H7.out hbA (lr_ _)) (H7b.out.below hbA))
 clear hbA hna hza hz HJA H7 H7b
 go_wp2_with fail
 refine HOA.out.mono ?_
 rintro e wb ⟨hbB,A8,c8,rfl,o1,o2,hl8⟩
 have hz:=HB.out.2.2.1
 have hbB2:=below_then H8.out.1 hbB (lr_ _)
 have hzb:=hbB2.size
 have hbc:=below_new wb (.cells #[.slice A7 L6 c7] 41)
 have hjb:=joined_any (fun g=>w.heap.size+1≤g) 161 (some ⟨wb.heap.size,0,none⟩) 1 1 [ms] (wb.alloc (.cells #[.slice A7 L6 c7] 41)) (by omega) (fun g hg=>by have:=hbc.size;omega) rfl
  (lst_all (heap_new_ wb (.cells #[.slice A7 L6 c7] 41)) rfl (by omega) (all_one ⟨A7,c7,by rw[HB.out.2.2.2.2.1],by rw[HB.out.2.2.2.2.1];exact H6.out.2.2.2.2.2.1,H6.out.2.2.2.2.2.2,(H8.out.2.below hbB).below hbc⟩)) (lr_ _) (by unfold maxLen;decide) (by decide) (by rw[flat1,HB.out.2.2.2.2.1];have:=HB.out.2.2.2.2.2.2;omega)
 rw[flat1] at hjb
 have HJB:=hd_ hjb
 have H9:=hd_ (ai_ (below_then hbB2 hbc (lr_ _)) (ai_ o1 (ai_ o2 (hl8.below hbc))))
 obtain⟨l8,hl8e⟩:=nm_ ((onlyL pb (Nd.mk 160 [] ks)).length)
 have HL8:=hd_ hl8e
 rw[hl8e]
 clear hjb hbB hbB2 hbc hz hzb hl8 o1 o2 HOA H8 hl8e
 go_wp2_with fail
 refine HJB.out.mono ?_
 rintro e wc ⟨hbC,tb,Bb,mb,nb,Kb,ub,vb,rfl,hnb⟩
 have hzc:=(below_then H9.out.1 hbC (lr_ _)).size
 have hz:=HB.out.2.2.1
 have HOB:=hd_ (only_any (fun g=>w.heap.size+1≤g) eb _ _ _ _ wc (fun g hg=>by omega) hnb)
 have H10:=hd_ (ai_ (below_then H9.out.1 hbC (lr_ _)) (H9.out.2.2.2.below hbC))
 clear hbC hnb hzc hz HJB
 go_wp2_with fail
 refine HOB.out.mono ?_
 rintro e wf ⟨hbF,A9,c9,rfl,g1,g2,hl9⟩
 have hz:=HB.out.2.2.1
 have hbF2:=below_then H10.out.1 hbF (lr_ _)
 have hzf:=hbF2.size
 obtain⟨l9,hl9e⟩:=nm_ ((onlyL eb (Nd.mk 161 [] ms)).length)
 rw[hl9e] at g1⊢
 have hbg:=below_new wf (.cells #[.slice A8 l8 c8,.slice A9 l9 c9] 41)
 have hjc:=joined_any (fun g=>w.heap.size+1≤g) 48 (some ⟨wf.heap.size,0,none⟩) 2 2 [onlyL pb (.mk 160 [] ks),onlyL eb (.mk 161 [] ms)] (wf.alloc (.cells #[.slice A8 l8 c8,.slice A9 l9 c9] 41)) (by omega) (fun g hg=>by have:=hbg.size;omega) rfl
  (lst_all (heap_new_ wf (.cells #[.slice A8 l8 c8,.slice A9 l9 c9] 41)) rfl (by omega) (all_two ⟨A8,c8,by rw[HL8.out],H9.out.2.1,H9.out.2.2.1,(H10.out.2.below hbF).below hbg⟩ ⟨A9,c9,by rw[hl9e],by rw[hl9e];exact g1,g2,hl9.below hbg⟩)) (lr_ _) (by unfold maxLen;decide) (by decide) (by
    have i1:=onlyL_len pb (Nd.mk 160 [] ks)
    have i2:=onlyL_len eb (Nd.mk 161 [] ms)
    rw[flat2,List.length_append]
    omega)
 have HJC:=hd_ hjc
 have H11:=hd_ (below_then hbF2 hbg (lr_ _))
 clear hjc hbF hbF2 hbg hz hzf hl9 g1 g2 HOB H10 hl9e
 go_wp2_with fail
 refine HJC.out.mono ?_
 rintro e w9 ⟨hb9,t9,B9,m9,n9,K9,u9,v9,rfl,hnF⟩
 have hz:=HB.out.2.2.1
 have hb9:=below_then H11.out hb9 (lr_ _)
 have hBw:=below_then HB.out.1 hb9 (lr_ _)
 have p9:=(hb9.block w.heap.size (by omega)).trans HB.out.2.1
 obtain⟨r0,r1,r2,hB⟩:=res3 (b:=w.heap.size) (y0:=.int .u8 t9) (y1:=.slice B9 m9 n9) (y2:=.slice K9 u9 v9) (lr_ _) hBw p9
 have hn2:=res3_nd (b:=w.heap.size) (y0:=.int .u8 t9) (y1:=.slice B9 m9 n9) (y2:=.slice K9 u9 v9) (fun g hg=>by omega) hnF
 have f0:=fh_ p9 0
 have f1:=fh_ p9 1
 have f2:=fh_ p9 2
 have s0:=(ch_ p9 0).trans rfl
 have s1:=(ch_ p9 1).trans rfl
 have s2:=(ch_ p9 2).trans rfl
 have HE:=hd_ (ai_ hB (NdC.mono (B':=fun g=>w.heap.size≤g) (fun g hg=>by omega) _ _ _ _ hn2))
 clear hB hn2 hnF p9 hBw hb9 hz HJC HB H11 H6 H9
 go_wp2_with fail
 refine bodyPost_ret (v:=.agg #[.int .u8 t9,.slice B9 m9 n9,.slice K9 u9 v9]) ?_ rfl ⟨HE.out.1,_,_,_,_,_,_,_,rfl,HE.out.2⟩
 simp[results,Tryz.results133,go_sem,r0,r1,r2]
end Go.Proofs.YtkjkhoglkpepiaaGreatDoor.nmc
