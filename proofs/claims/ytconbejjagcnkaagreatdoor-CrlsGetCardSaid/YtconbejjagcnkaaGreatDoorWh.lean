/- The list that a node tells: the program's toldBy. -/
import Derived.Test.YtconbejjagcnkaaGreatDoorWg
set_option maxRecDepth 100000
set_option maxHeartbeats 16000000
set_option linter.unusedVariables false
set_option linter.unusedSimpArgs false
namespace Go.Proofs.YtconbejjagcnkaaGreatDoor.nmc
open Go.RowKit tlvc tlvd ndc txc txm intc intm vtc
theorem fld2 (t:Int)(A:Option Addr)(l k:Nat)(K:Option Addr)(m n:Nat)(w:World):(Instr.field 40 (.agg #[.int .u8 t,.slice A l k,.slice K m n]) 2).run Tryz.prog w=.ok (.slice K m n) w:=by kernel_rfl
theorem Tryz.infoI64:(Tryz.prog.info? 2).map (fun i=>(i.zero,i.size,i.bytes))=some (some (.int .i64 0),1,8):=by kernel_rfl
def TeP (w:World)(c:Cr)(e:Ending)(w':World):Prop:=Below w.heap.size w w'∧∃c0 c1 c2 c3 c4,e=.returned (.agg #[c0,c1,c2,c3,c4])∧CrC (fun g=>w.heap.size≤g) w' c c0 c1 c2 c3 c4
theorem ng2 {w w':World}{r:Option (List At)}{e:Ending}(h:GetPostF w r e w'):Below w.heap.size w w'∧∃A l k er,e=.returned (.tuple #[.slice A l k,.int .i64 er])∧LsC atE (fun g=>w.heap.size≤g) w' (r.getD []) (.slice A l k):=by
 obtain⟨hb,h⟩:=h
 cases r with
 |none=>obtain rfl:=h;exact⟨hb,_,_,_,_,rfl,LsC.nil⟩
 |some y=>obtain⟨A,k,rfl,h1,h2,h3⟩:=h;exact⟨hb,_,_,_,_,rfl,⟨A,k,rfl,h1,h2,h3⟩⟩
-- a list on its way: its own block b, the blocks below z as they were
structure TW (wz:World) (b:Nat) (v0 v1 v2 v3 v4:Value) (W:World):Prop where
 bel:Below wz.heap.size wz W
 low:wz.heap.size≤b
 box:W.heap[b]? =some (.cells #[v0,v1,v2,v3,v4] 26)
theorem TW.call {wz W W':World}{b:Nat}{v0 v1 v2 v3 v4:Value}(h:TW wz b v0 v1 v2 v3 v4 W)(hb:Below W.heap.size W W'):TW wz b v0 v1 v2 v3 v4 W':=
 ⟨below_then h.bel hb (lr_ _),h.low,(hb.block _ (Array.getElem?_eq_some_iff.1 h.box).1).trans h.box⟩
theorem TW.s3 {wz W:World}{b:Nat}{v0 v1 v2 v3 v4:Value}(h:TW wz b v0 v1 v2 v3 v4 W)(v:Value):TW wz b v0 v1 v2 v v4 (W.setCell ⟨b,3,none⟩ v):=
 ⟨h.bel.setCell (p:=⟨b,3,none⟩) h.low v,h.low,set_heap _ _ 3 v _ _ _ h.box⟩
theorem TW.s4 {wz W:World}{b:Nat}{v0 v1 v2 v3 v4:Value}(h:TW wz b v0 v1 v2 v3 v4 W)(v:Value):TW wz b v0 v1 v2 v3 v (W.setCell ⟨b,4,none⟩ v):=
 ⟨h.bel.setCell (p:=⟨b,4,none⟩) h.low v,h.low,set_heap _ _ 4 v _ _ _ h.box⟩
def set5 (W:World)(b:Nat)(v0 v1 v2 v3 v4:Value):World:=((((W.setCell ⟨b,0,none⟩ v0).setCell ⟨b,1,none⟩ v1).setCell ⟨b,2,none⟩ v2).setCell ⟨b,3,none⟩ v3).setCell ⟨b,4,none⟩ v4
theorem set5_box {W:World}{b:Nat}{x0 x1 x2 x3 x4:Value}{T:TypeId}(h:W.heap[b]? =some (.cells #[x0,x1,x2,x3,x4] T))(v0 v1 v2 v3 v4:Value):(set5 W b v0 v1 v2 v3 v4).heap[b]? =some (.cells #[v0,v1,v2,v3,v4] T):=
 set_heap _ _ 4 v4 _ _ _ (set_heap _ _ 3 v3 _ _ _ (set_heap _ _ 2 v2 _ _ _ (set_heap _ _ 1 v1 _ _ _ (set_heap _ _ 0 v0 _ _ _ h))))
theorem set5_other {W:World}{b g:Nat}(h:g≠b)(v0 v1 v2 v3 v4:Value):(set5 W b v0 v1 v2 v3 v4).heap[g]? =W.heap[g]? :=by
 unfold set5
 rw[set_heap_other _ _ _ _ _ h,set_heap_other _ _ _ _ _ h,set_heap_other _ _ _ _ _ h,set_heap_other _ _ _ _ _ h,set_heap_other _ _ _ _ _ h]
theorem set5_size (W:World)(b:Nat)(v0 v1 v2 v3 v4:Value):(set5 W b v0 v1 v2 v3 v4).heap.size=W.heap.size:=by unfold set5;simp only[set_size]
theorem set5_below {B b:Nat}{w W:World}(hb:B≤b)(h:Below B w W)(v0 v1 v2 v3 v4:Value):Below B w (set5 W b v0 v1 v2 v3 v4):=
 ((((h.setCell (p:=⟨b,0,none⟩) hb v0).setCell (p:=⟨b,1,none⟩) hb v1).setCell (p:=⟨b,2,none⟩) hb v2).setCell (p:=⟨b,3,none⟩) hb v3).setCell (p:=⟨b,4,none⟩) hb v4
theorem own_keep {base:Nat}{e:TypeId}{sz n:Nat}{v:Value}{cs:List Value}{w w':World}(h:w.ownsRow base e sz v n cs)(hk: ∀g,base≤g→g<w.heap.size→w'.heap[g]? =w.heap[g]?):w'.ownsRow base e sz v n cs:=by
 refine⟨h.1,?_⟩
 rcases h.2 with hh | ⟨g,cap,cur,e1,hbg,hg,r⟩
 ·exact .inl hh
 ·exact .inr ⟨g,cap,cur,e1,hbg,(hk g hbg (Array.getElem?_eq_some_iff.1 hg).1).trans hg,r⟩
-- the serials on their way
structure SR (wy:World) (b:Nat) (v:Value) (n:Nat) (xs:List Int) (W:World):Prop where
 bel:Below b wy W
 low:b<wy.heap.size
 own:W.ownsRow wy.heap.size 2 1 v n (ivals xs)
 fit:Fit8 xs
theorem SR.push {wy W W2:World}{b:Nat}{v:Value}{n:Nat}{xs:List Int}{x:Int}(h:SR wy b v n xs W)(hz:wy.heap.size≤W.heap.size)(hb:Below W.heap.size W W2)(hx:I64 x)(hn:n≤1000):
 ∃A c W3,(Builtin.append_ #[24,24] 24 #[v,.slice (some ⟨W2.heap.size,0,none⟩) 1 1]).run Tryz.prog (W2.alloc (.cells #[.int .i64 x] 2))=.ok (.slice A (n+1) c) W3∧SR wy b (.slice A (n+1) c) (n+1) (xs++[x]) W3∧wy.heap.size≤W3.heap.size∧∀g,g<wy.heap.size→W3.heap[g]? =W.heap[g]? :=by
 have hb2:=below_then hb (below_new W2 (.cells #[.int .i64 x] 2)) (lr_ _)
 have hown:=own_keep h.own (fun g _ hg=>hb2.block g hg)
 have hins:Ins (W2.alloc (.cells #[.int .i64 x] 2)) (some ⟨W2.heap.size,0,none⟩) 1 [x]:=⟨rfl,fun y hy=>by simp only[List.mem_singleton] at hy;subst hy;exact hx,fun _=>⟨_,0,rfl,by simp,fun j hj=>by
  obtain rfl:j=0:=by omega
  exact(ch_ (heap_new_ W2 (.cells #[.int .i64 x] 2)) 0).trans rfl⟩⟩
 obtain⟨i0,hi,hz0,hz1,hz2⟩:=info_parts Tryz.infoI64
 obtain⟨v',W3,hr,ho,hg,_⟩:=run_iapp (P:=Tryz.prog) (W2.alloc (.cells #[.int .i64 x] 2)) wy.heap.size 24 24 2 i0 (.int .i64 0) Tryz.underlying24 hi hz0 hz1 hz2 rfl v n _ hown (some ⟨W2.heap.size,0,none⟩) 1 1 [x] hins (by omega) (by have:=hb2.size;omega)
 have hlt:=h.own.lt
 have hsh: ∃A c,v'=.slice A (n+1) c:=by
  rcases ho.2 with ⟨rfl,h0⟩ | ⟨g,cap,cur,e1,_⟩
  ·omega
  ·exact⟨_,cap,e1⟩
 obtain⟨A,c,rfl⟩:=hsh
 have ek: ∀g,g<wy.heap.size→W3.heap[g]? =W.heap[g]? :=fun g hg'=>(hg.block g (by have:=hb2.size;omega) (fun e=>by have:=(hlt g e.symm).1;omega)).trans (hb2.block g (by omega))
 refine⟨A,c,W3,hr,⟨?_,h.low,?_,h.fit.app (fun y hy=>by simp only[List.mem_singleton] at hy;subst hy;exact hx)⟩,?_,ek⟩
 ·exact(h.bel.trans (hb2.mono (by have:=h.low;omega))).grown hg (by have:=h.low;have:=hb2.size;omega) (fun j hj=>by have:=(hlt j hj).1;have:=h.low;omega)
 ·have:ivals (xs++[x])=ivals xs++ivals [x]:=by unfold ivals;rw[List.map_append]
  rw[this];exact ho
 ·have:=hg.size;have:=hb2.size;omega
theorem SR.s3 {wy W:World}{b:Nat}{v:Value}{n:Nat}{xs:List Int}(h:SR wy b v n xs W)(u:Value):SR wy b v n xs (W.setCell ⟨b,3,none⟩ u):=
 ⟨h.bel.setCell (p:=⟨b,3,none⟩) (lr_ _) u,h.low,own_keep h.own (fun g hg _=>set_heap_other _ _ _ _ _ (by have:=h.low;omega)),h.fit⟩
theorem toldL_any (B:Nat→Prop)(n:Nd)(c0 c1 c2:Value)(w:World)(hn:NdC B w n c0 c1 c2)(hT:Tabs w):
 Calls Tryz.prog 24 #[.agg #[c0,c1,c2]] w (TeP w (tellL n)):=by
 have mixed:Tryz.prog.follows Departure.mixedOrders=true:=by kernel_rfl
 obtain⟨t,A1,l1,k1,K1,m1,u1,rfl,rfl,rfl⟩:=hn.shape
 obtain⟨W0,hW0⟩:=nm_ ((w.alloc (.cells #[.int .u8 t,.slice A1 l1 k1,.slice K1 m1 u1] 40)).alloc (.cells #[.slice none 0 0,.int .i64 0,.int .i64 0,.slice none 0 0,.int .i64 0] 26))
 have hb0:Below w.heap.size w W0:=by rw[←hW0];exact(below_new _ _).alloc (by simp) _
 have hz0:W0.heap.size=w.heap.size+2:=by rw[←hW0];simp
 have p0:W0.heap[w.heap.size]? =some (.cells #[.int .u8 t,.slice A1 l1 k1,.slice K1 m1 u1] 40):=by rw[←hW0,heap_old_ _ _ (by simp)];exact heap_new_ _ _
 have p1:W0.heap[w.heap.size+1]? =some (.cells #[.slice none 0 0,.int .i64 0,.int .i64 0,.slice none 0 0,.int .i64 0] 26):=by rw[←hW0];exact heap_is (by simp)
 obtain⟨_,x0,x1,x2⟩:=st3 p0
 have hn:=NdC.below hb0 _ _ _ _ (NdC.bound _ _ _ _ hn)
 have hn:=NdC.mono (B':=fun g=>g<w.heap.size) (fun g hg=>hg.2) _ _ _ _ hn
 have HC1:=hd_ (kidC_any _ n 0 _ _ _ W0 hn (by decide))
 have HA:=hd_ (ai_ hb0 (ai_ hz0 (ai_ p0 (ai_ p1 (ai_ hn (hT.below hb0))))))
 clear hb0 hz0 p0 p1 hn hT
 go_enter Tryz.func24,Tryz.ntmps24
 go_wp2_with fail
 clear x0 x1 x2
 refine HC1.out.mono ?_
 rintro e w1 ⟨hb1,t2,A2,l2,k2,K2,m2,u2,rfl,hnb⟩
 obtain⟨W1,hW1⟩:=nm_ (w1.alloc (.cells #[.int .u8 t2,.slice A2 l2 k2,.slice K2 m2 u2] 40))
 have hbn:Below w1.heap.size w1 W1:=by rw[←hW1];exact below_new _ _
 have p3:W1.heap[w1.heap.size]? =some (.cells #[.int .u8 t2,.slice A2 l2 k2,.slice K2 m2 u2] 40):=by rw[←hW1];exact heap_new_ _ _
 obtain⟨nb,hnb0⟩:=nm_ (kidF n 0)
 rw[hnb0] at hnb
 have hnb:=NdC.below hbn _ _ _ _ hnb
 have hb01:=below_then hb1 hbn (lr_ _)
 have hl3:W0.heap.size≤w1.heap.size:=hb1.size
 obtain⟨b3,hb3⟩:=nm_ w1.heap.size
 rw[hb3] at p3 hl3
 obtain⟨_,x0,x1,x2⟩:=st3 p3
 have HC2:=hd_ (kidC_any _ nb 0 _ _ _ W1 hnb (by decide))
 have HB:=hd_ (ai_ hb01 (ai_ p3 (ai_ hnb (ai_ hl3 hnb0))))
 clear hb01 p3 hnb hl3 hnb0 hbn hb1 HC1
 go_wp2_with fail
 clear x0 x1 x2
 refine HC2.out.mono ?_
 rintro e w2 ⟨hb2,t4,A4,l4,k4,K4,m4,u4,rfl,hni⟩
 have HC3:=hd_ (getF_any _ (kidF nb 0) _ _ _ w2 hni (HA.out.2.2.2.2.2.below (below_then HB.out.1 hb2 (lr_ _))))
 have H2:=hd_ hb2
 clear hb2 hni HC2
 go_wp2_with fail
 refine HC3.out.mono ?_
 rintro e wz hpost
 obtain⟨hbz,A5,l5,k5,er,rfl,hls⟩:=ng2 hpost
 obtain⟨iss,hiss⟩:=nm_ ((getN (kidF nb 0)).getD [])
 rw[hiss] at hls
 obtain⟨v1,hv1⟩:=nm_ (timeN (kidF nb 1).tag (kidF nb 1).body)
 obtain⟨v2,hv2⟩:=nm_ (timeN (kidF nb 2).tag (kidF nb 2).body)
 have hq:=below_then HB.out.1 (below_then H2.out hbz (lr_ _)) (lr_ _)
 have hq3:=below_then H2.out hbz (lr_ _)
 have hsz:=hq.size
 have hs3:=(Array.getElem?_eq_some_iff.1 HB.out.2.1).1
 have hw1:=HB.out.1.size
 have hw2:=H2.out.size
 have HZ:=hd_ (ai_ (below_then HA.out.1 hq (lr_ _)) (ai_ (show w.heap.size+2≤wz.heap.size by have:=HA.out.2.1;omega) (ai_ ((hq.block _ (by have:=HA.out.2.1;omega)).trans HA.out.2.2.1) (ai_ ((hq.block _ (by have:=HA.out.2.1;omega)).trans HA.out.2.2.2.1) (ai_ ((hq3.block _ hs3).trans HB.out.2.1) (ai_ (NdC.mono (B':=fun g=>g<wz.heap.size) (fun g hg=>by have:=HA.out.2.1;omega) _ _ _ _ (NdC.below hq _ _ _ _ HA.out.2.2.2.2.1)) (ai_ (NdC.mono (B':=fun g=>g<wz.heap.size) (fun g hg=>by have:=HA.out.2.1;omega) _ _ _ _ (NdC.below hq3 _ _ _ _ HB.out.2.2.1)) (hls.on (S':=fun g=>w.heap.size+2≤g∧g<wz.heap.size) (lr_ _) (fun _ _ _=>rfl) (fun g hg hl=>⟨by have:=HA.out.2.1;omega,hl⟩)))))))))
 have HI:=hd_ (ai_ HB.out.2.2.2.2 (ai_ hiss (ai_ hv1 (ai_ hv2 (show I64 v1∧I64 v2 from⟨by rw[←hv1];exact timeN_i64 _ _,by rw[←hv2];exact timeN_i64 _ _⟩)))))
 have HT1:=hd_ (fun(W:World) (c0 c1 c2:Value) (h:NdC (fun g=>g<wz.heap.size) W (kidF nb 1) c0 c1 c2)=>(show Calls _ _ _ _ (fun e w'=>e=.returned (.int .i64 v1)∧Below W.heap.size W w') by rw[←hv1];exact timeOf_any _ (kidF nb 1) c0 c1 c2 W h))
 have HT2:=hd_ (fun(W:World) (c0 c1 c2:Value) (h:NdC (fun g=>g<wz.heap.size) W (kidF nb 2) c0 c1 c2)=>(show Calls _ _ _ _ (fun e w'=>e=.returned (.int .i64 v2)∧Below W.heap.size W w') by rw[←hv2];exact timeOf_any _ (kidF nb 2) c0 c1 c2 W h))
 clear hpost hbz hls hiss hv1 hv2 hq hq3 hsz hs3 hw1 hw2 HC3 H2 HA HB
 go_upto_region 3 with fail
 go_cut [6] (fun s6 wx=>∃b6:Nat,s6=.pointer (some ⟨b6,0,none⟩)∧Hid (TW wz b6 (.slice A5 l5 k5) (.int .i64 v1) (.int .i64 v2) (.slice none 0 0) (.int .i64 0) wx))
 case first=>
  try dsimp only
  refine wp_region_noPanic ?_
  refine rh_ mixed (S:=fun X:World=>X.cell? ⟨b3,0,none⟩=some (.int .u8 t2)∧X.cell? ⟨b3,1,none⟩=some (.slice A2 l2 k2)∧X.cell? ⟨b3,2,none⟩=some (.slice K2 m2 u2)) (K:=fun X=>X.heap[b3]? =some (.cells #[.int .u8 t2,.slice A2 l2 k2,.slice K2 m2 u2] 40)) (fun X h=>(st3 h).2) HZ.out.2.2.2.2.1 (fun hHeld=>?_)
  have HSS:=hd_ (fun(X:World) (hX:Below wz.heap.size wz X)=>(st3 ((hX.block _ (Array.getElem?_eq_some_iff.1 HZ.out.2.2.2.2.1).1).trans HZ.out.2.2.2.2.1)).2)
  have hbd:=below_drew wz
  obtain⟨wd,hwd⟩:=nm_ (wz.drew)
  rw[hwd] at hHeld hbd⊢
  have HB0:=hd_ hbd
  clear hwd hbd
  refine tk_ (i:=0) (z:=?_)
  refine tk_ (i:=1) (z:=?_)
  refine tk_ (i:=4) (z:=?_)
  refine wpAnyH_ready (rs:=[2,8]) (by kernel_rfl) (by simp) ?_
  refine AllReadyH.cons (o:=⟨_,_,_,_,_,_⟩) rfl (fun KK hKK=>?_) (AllReadyH.cons (o:=⟨_,_,_,_,_,_⟩) rfl (fun KK hKK=>?_) AllReadyH.nil)
  focus
   go_simp
   refine(kidC_any _ nb 1 _ _ _ wd (NdC.below HB0.out _ _ _ _ HZ.out.2.2.2.2.2.2.1) (by decide)).mono ?_
   rintro e wa1 ⟨hb,t6,A6,l6,k6,K6,m6,u6,rfl,hni⟩
   dsimp only
   have hbz:=below_then HB0.out hb (lr_ _)
   refine hKK.out _ _ (HSS.out _ hbz) (fun hHeld=>?_)
   clear hKK KK
   try simp only[Act.put,qa_,qb_,qc_]
   have HNI:=hd_ hni
   clear hni
   have HB1:=hd_ hbz
   clear hb hbz HB0
   refine wpAnyH_ready (rs:=[3,8]) (by kernel_rfl) (by simp) ?_
   refine AllReadyH.cons (o:=⟨_,_,_,_,_,_⟩) rfl (fun KK hKK=>?_) (AllReadyH.cons (o:=⟨_,_,_,_,_,_⟩) rfl (fun KK hKK=>?_) AllReadyH.nil)
   focus
    go_simp
    refine(HT1.out wa1 _ _ _ HNI.out).mono ?_
    rintro e wa2 ⟨rfl,hb⟩
    dsimp only
    have hbz:=below_then HB1.out hb (lr_ _)
    refine hKK.out _ _ (HSS.out _ hbz) (fun hHeld=>?_)
    clear hKK KK
    try simp only[Act.put,qa_,qb_,qc_]
    have HB2:=hd_ hbz
    clear hb hbz HB1
    refine wpAnyH_ready (rs:=[5,8]) (by kernel_rfl) (by simp) ?_
    refine AllReadyH.cons (o:=⟨_,_,_,_,_,_⟩) rfl (fun KK hKK=>?_) (AllReadyH.cons (o:=⟨_,_,_,_,_,_⟩) rfl (fun KK hKK=>?_) AllReadyH.nil)
    focus
     go_simp
     refine(kidC_any _ nb 2 _ _ _ wa2 (NdC.below HB2.out _ _ _ _ HZ.out.2.2.2.2.2.2.1) (by decide)).mono ?_
     rintro e wa3 ⟨hb,t6,A6,l6,k6,K6,m6,u6,rfl,hni⟩
     dsimp only
     have hbz:=below_then HB2.out hb (lr_ _)
     refine hKK.out _ _ (HSS.out _ hbz) (fun hHeld=>?_)
     clear hKK KK
     try simp only[Act.put,qa_,qb_,qc_]
     have HNI:=hd_ hni
     clear hni
     have HB3:=hd_ hbz
     clear hb hbz HB2
     refine wpAnyH_ready (rs:=[6,8]) (by kernel_rfl) (by simp) ?_
     refine AllReadyH.cons (o:=⟨_,_,_,_,_,_⟩) rfl (fun KK hKK=>?_) (AllReadyH.cons (o:=⟨_,_,_,_,_,_⟩) rfl (fun KK hKK=>?_) AllReadyH.nil)
     focus
      go_simp
      refine(HT2.out wa3 _ _ _ HNI.out).mono ?_
      rintro e wa4 ⟨rfl,hb⟩
      dsimp only
      have hbz:=below_then HB3.out hb (lr_ _)
      refine hKK.out _ _ (HSS.out _ hbz) (fun hHeld=>?_)
      clear hKK KK
      try simp only[Act.put,qa_,qb_,qc_]
      have HB4:=hd_ hbz
      clear hb hbz HB3
      refine tk_ (i:=7) (z:=?_)
      refine on_ (i:=8) (z:=fun KK hKK=>?_)
      go_simp
      have hbn:=below_new wa4 (.cells #[.slice none 0 0,.int .i64 0,.int .i64 0,.slice none 0 0,.int .i64 0] 26)
      have hbz:=below_then HB4.out hbn (lr_ _)
      have hq:=heap_new_ wa4 (.cells #[.slice none 0 0,.int .i64 0,.int .i64 0,.slice none 0 0,.int .i64 0] 26)
      have hlo:wz.heap.size≤wa4.heap.size:=HB4.out.size
      refine hKK.out _ _ (HSS.out _ hbz) (fun hHeld=>?_)
      clear hKK KK
      try simp only[Act.put,qa_,qb_,qc_]
      obtain⟨wa5,hWJ⟩:=nm_ (wa4.alloc (.cells #[.slice none 0 0,.int .i64 0,.int .i64 0,.slice none 0 0,.int .i64 0] 26))
      obtain⟨b6,hb6⟩:=nm_ wa4.heap.size
      rw[hWJ] at hbz hq hHeld⊢
      rw[hb6] at hq hlo⊢
      have HTW5:=hd_ (TW.mk hbz hlo hq)
      have HB5:=hd_ hbz
      clear hbz hq hlo hWJ hb6 hbn HB4
      obtain⟨f0,f1,f2,f3,f4⟩:=fz5 HTW5.out.box
      obtain⟨s0,s1,s2,s3,s4⟩:=box5 HTW5.out.box
      refine on_ (i:=9) (z:=fun KK hKK=>?_)
      go_simp
      refine hKK.out _ _ (HSS.out _ (set5_below HTW5.out.low HB5.out _ _ _ _ _)) (fun hHeld=>?_)
      clear hKK KK
      try simp only[Act.put,qa_,qb_,qc_]
      clear f0 f1 f2 f3 f4 s0 s1 s2 s3 s4
      refine wpAnyH_done (by kernel_rfl) ?_ _
      refine NoPanic.normal ?_
      go_wp2_with fail
      go_meet
      exact⟨b6,rfl,hd_ ⟨set5_below HTW5.out.low HB5.out _ _ _ _ _,HTW5.out.low,set5_box HTW5.out.box _ _ _ _ _⟩⟩
     focus
      go_simp
      have hbn:=below_new wa3 (.cells #[.slice none 0 0,.int .i64 0,.int .i64 0,.slice none 0 0,.int .i64 0] 26)
      have hbz:=below_then HB3.out hbn (lr_ _)
      have hq:=heap_new_ wa3 (.cells #[.slice none 0 0,.int .i64 0,.int .i64 0,.slice none 0 0,.int .i64 0] 26)
      have hlo:wz.heap.size≤wa3.heap.size:=HB3.out.size
      refine hKK.out _ _ (HSS.out _ hbz) (fun hHeld=>?_)
      clear hKK KK
      try simp only[Act.put,qa_,qb_,qc_]
      have HNJ:=hd_ (NdC.below hbn _ _ _ _ HNI.out)
      obtain⟨wa4,hWJ⟩:=nm_ (wa3.alloc (.cells #[.slice none 0 0,.int .i64 0,.int .i64 0,.slice none 0 0,.int .i64 0] 26))
      obtain⟨b6,hb6⟩:=nm_ wa3.heap.size
      rw[hWJ] at hbz hq hHeld HNJ⊢
      rw[hb6] at hq hlo⊢
      have HTW4:=hd_ (TW.mk hbz hlo hq)
      have HB4:=hd_ hbz
      clear HNI
      have HNI:=HNJ
      clear HNJ
      clear hbz hq hlo hWJ hb6 hbn HB3
      refine on_ (i:=6) (z:=fun KK hKK=>?_)
      go_simp
      refine(HT2.out wa4 _ _ _ HNI.out).mono ?_
      rintro e wa5 ⟨rfl,hb⟩
      dsimp only
      have hbz:=below_then HB4.out hb (lr_ _)
      have HTW5:=hd_ (HTW4.out.call hb)
      refine hKK.out _ _ (HSS.out _ hbz) (fun hHeld=>?_)
      clear hKK KK
      try simp only[Act.put,qa_,qb_,qc_]
      have HB5:=hd_ hbz
      clear hb hbz HB4 HTW4
      refine tk_ (i:=7) (z:=?_)
      obtain⟨f0,f1,f2,f3,f4⟩:=fz5 HTW5.out.box
      obtain⟨s0,s1,s2,s3,s4⟩:=box5 HTW5.out.box
      refine on_ (i:=9) (z:=fun KK hKK=>?_)
      go_simp
      refine hKK.out _ _ (HSS.out _ (set5_below HTW5.out.low HB5.out _ _ _ _ _)) (fun hHeld=>?_)
      clear hKK KK
      try simp only[Act.put,qa_,qb_,qc_]
      clear f0 f1 f2 f3 f4 s0 s1 s2 s3 s4
      refine wpAnyH_done (by kernel_rfl) ?_ _
      refine NoPanic.normal ?_
      go_wp2_with fail
      go_meet
      exact⟨b6,rfl,hd_ ⟨set5_below HTW5.out.low HB5.out _ _ _ _ _,HTW5.out.low,set5_box HTW5.out.box _ _ _ _ _⟩⟩
    focus
     go_simp
     have hbn:=below_new wa2 (.cells #[.slice none 0 0,.int .i64 0,.int .i64 0,.slice none 0 0,.int .i64 0] 26)
     have hbz:=below_then HB2.out hbn (lr_ _)
     have hq:=heap_new_ wa2 (.cells #[.slice none 0 0,.int .i64 0,.int .i64 0,.slice none 0 0,.int .i64 0] 26)
     have hlo:wz.heap.size≤wa2.heap.size:=HB2.out.size
     refine hKK.out _ _ (HSS.out _ hbz) (fun hHeld=>?_)
     clear hKK KK
     try simp only[Act.put,qa_,qb_,qc_]
     obtain⟨wa3,hWJ⟩:=nm_ (wa2.alloc (.cells #[.slice none 0 0,.int .i64 0,.int .i64 0,.slice none 0 0,.int .i64 0] 26))
     obtain⟨b6,hb6⟩:=nm_ wa2.heap.size
     rw[hWJ] at hbz hq hHeld⊢
     rw[hb6] at hq hlo⊢
     have HTW3:=hd_ (TW.mk hbz hlo hq)
     have HB3:=hd_ hbz
     clear hbz hq hlo hWJ hb6 hbn HB2
     refine on_ (i:=5) (z:=fun KK hKK=>?_)
     go_simp
     refine(kidC_any _ nb 2 _ _ _ wa3 (NdC.below HB3.out _ _ _ _ HZ.out.2.2.2.2.2.2.1) (by decide)).mono ?_
     rintro e wa4 ⟨hb,t6,A6,l6,k6,K6,m6,u6,rfl,hni⟩
     dsimp only
     have hbz:=below_then HB3.out hb (lr_ _)
     have HTW4:=hd_ (HTW3.out.call hb)
     refine hKK.out _ _ (HSS.out _ hbz) (fun hHeld=>?_)
     clear hKK KK
     try simp only[Act.put,qa_,qb_,qc_]
     have HNI:=hd_ hni
     clear hni
     have HB4:=hd_ hbz
     clear hb hbz HB3 HTW3
     refine on_ (i:=6) (z:=fun KK hKK=>?_)
     go_simp
     refine(HT2.out wa4 _ _ _ HNI.out).mono ?_
     rintro e wa5 ⟨rfl,hb⟩
     dsimp only
     have hbz:=below_then HB4.out hb (lr_ _)
     have HTW5:=hd_ (HTW4.out.call hb)
     refine hKK.out _ _ (HSS.out _ hbz) (fun hHeld=>?_)
     clear hKK KK
     try simp only[Act.put,qa_,qb_,qc_]
     have HB5:=hd_ hbz
     clear hb hbz HB4 HTW4
     refine tk_ (i:=7) (z:=?_)
     obtain⟨f0,f1,f2,f3,f4⟩:=fz5 HTW5.out.box
     obtain⟨s0,s1,s2,s3,s4⟩:=box5 HTW5.out.box
     refine on_ (i:=9) (z:=fun KK hKK=>?_)
     go_simp
     refine hKK.out _ _ (HSS.out _ (set5_below HTW5.out.low HB5.out _ _ _ _ _)) (fun hHeld=>?_)
     clear hKK KK
     try simp only[Act.put,qa_,qb_,qc_]
     clear f0 f1 f2 f3 f4 s0 s1 s2 s3 s4
     refine wpAnyH_done (by kernel_rfl) ?_ _
     refine NoPanic.normal ?_
     go_wp2_with fail
     go_meet
     exact⟨b6,rfl,hd_ ⟨set5_below HTW5.out.low HB5.out _ _ _ _ _,HTW5.out.low,set5_box HTW5.out.box _ _ _ _ _⟩⟩
   focus
    go_simp
    have hbn:=below_new wa1 (.cells #[.slice none 0 0,.int .i64 0,.int .i64 0,.slice none 0 0,.int .i64 0] 26)
    have hbz:=below_then HB1.out hbn (lr_ _)
    have hq:=heap_new_ wa1 (.cells #[.slice none 0 0,.int .i64 0,.int .i64 0,.slice none 0 0,.int .i64 0] 26)
    have hlo:wz.heap.size≤wa1.heap.size:=HB1.out.size
    refine hKK.out _ _ (HSS.out _ hbz) (fun hHeld=>?_)
    clear hKK KK
    try simp only[Act.put,qa_,qb_,qc_]
    have HNJ:=hd_ (NdC.below hbn _ _ _ _ HNI.out)
    obtain⟨wa2,hWJ⟩:=nm_ (wa1.alloc (.cells #[.slice none 0 0,.int .i64 0,.int .i64 0,.slice none 0 0,.int .i64 0] 26))
    obtain⟨b6,hb6⟩:=nm_ wa1.heap.size
    rw[hWJ] at hbz hq hHeld HNJ⊢
    rw[hb6] at hq hlo⊢
    have HTW2:=hd_ (TW.mk hbz hlo hq)
    have HB2:=hd_ hbz
    clear HNI
    have HNI:=HNJ
    clear HNJ
    clear hbz hq hlo hWJ hb6 hbn HB1
    refine on_ (i:=3) (z:=fun KK hKK=>?_)
    go_simp
    refine(HT1.out wa2 _ _ _ HNI.out).mono ?_
    rintro e wa3 ⟨rfl,hb⟩
    dsimp only
    have hbz:=below_then HB2.out hb (lr_ _)
    have HTW3:=hd_ (HTW2.out.call hb)
    refine hKK.out _ _ (HSS.out _ hbz) (fun hHeld=>?_)
    clear hKK KK
    try simp only[Act.put,qa_,qb_,qc_]
    have HB3:=hd_ hbz
    clear hb hbz HB2 HTW2
    refine on_ (i:=5) (z:=fun KK hKK=>?_)
    go_simp
    refine(kidC_any _ nb 2 _ _ _ wa3 (NdC.below HB3.out _ _ _ _ HZ.out.2.2.2.2.2.2.1) (by decide)).mono ?_
    rintro e wa4 ⟨hb,t6,A6,l6,k6,K6,m6,u6,rfl,hni⟩
    dsimp only
    have hbz:=below_then HB3.out hb (lr_ _)
    have HTW4:=hd_ (HTW3.out.call hb)
    refine hKK.out _ _ (HSS.out _ hbz) (fun hHeld=>?_)
    clear hKK KK
    try simp only[Act.put,qa_,qb_,qc_]
    have HNI:=hd_ hni
    clear hni
    have HB4:=hd_ hbz
    clear hb hbz HB3 HTW3
    refine on_ (i:=6) (z:=fun KK hKK=>?_)
    go_simp
    refine(HT2.out wa4 _ _ _ HNI.out).mono ?_
    rintro e wa5 ⟨rfl,hb⟩
    dsimp only
    have hbz:=below_then HB4.out hb (lr_ _)
    have HTW5:=hd_ (HTW4.out.call hb)
    refine hKK.out _ _ (HSS.out _ hbz) (fun hHeld=>?_)
    clear hKK KK
    try simp only[Act.put,qa_,qb_,qc_]
    have HB5:=hd_ hbz
    clear hb hbz HB4 HTW4
    refine tk_ (i:=7) (z:=?_)
    obtain⟨f0,f1,f2,f3,f4⟩:=fz5 HTW5.out.box
    obtain⟨s0,s1,s2,s3,s4⟩:=box5 HTW5.out.box
    refine on_ (i:=9) (z:=fun KK hKK=>?_)
    go_simp
    refine hKK.out _ _ (HSS.out _ (set5_below HTW5.out.low HB5.out _ _ _ _ _)) (fun hHeld=>?_)
    clear hKK KK
    try simp only[Act.put,qa_,qb_,qc_]
    clear f0 f1 f2 f3 f4 s0 s1 s2 s3 s4
    refine wpAnyH_done (by kernel_rfl) ?_ _
    refine NoPanic.normal ?_
    go_wp2_with fail
    go_meet
    exact⟨b6,rfl,hd_ ⟨set5_below HTW5.out.low HB5.out _ _ _ _ _,HTW5.out.low,set5_box HTW5.out.box _ _ _ _ _⟩⟩
  focus
   go_simp
   have hbn:=below_new wd (.cells #[.slice none 0 0,.int .i64 0,.int .i64 0,.slice none 0 0,.int .i64 0] 26)
   have hbz:=below_then HB0.out hbn (lr_ _)
   have hq:=heap_new_ wd (.cells #[.slice none 0 0,.int .i64 0,.int .i64 0,.slice none 0 0,.int .i64 0] 26)
   have hlo:wz.heap.size≤wd.heap.size:=HB0.out.size
   refine hKK.out _ _ (HSS.out _ hbz) (fun hHeld=>?_)
   clear hKK KK
   try simp only[Act.put,qa_,qb_,qc_]
   obtain⟨wa1,hWJ⟩:=nm_ (wd.alloc (.cells #[.slice none 0 0,.int .i64 0,.int .i64 0,.slice none 0 0,.int .i64 0] 26))
   obtain⟨b6,hb6⟩:=nm_ wd.heap.size
   rw[hWJ] at hbz hq hHeld⊢
   rw[hb6] at hq hlo⊢
   have HTW1:=hd_ (TW.mk hbz hlo hq)
   have HB1:=hd_ hbz
   clear hbz hq hlo hWJ hb6 hbn HB0
   refine on_ (i:=2) (z:=fun KK hKK=>?_)
   go_simp
   refine(kidC_any _ nb 1 _ _ _ wa1 (NdC.below HB1.out _ _ _ _ HZ.out.2.2.2.2.2.2.1) (by decide)).mono ?_
   rintro e wa2 ⟨hb,t6,A6,l6,k6,K6,m6,u6,rfl,hni⟩
   dsimp only
   have hbz:=below_then HB1.out hb (lr_ _)
   have HTW2:=hd_ (HTW1.out.call hb)
   refine hKK.out _ _ (HSS.out _ hbz) (fun hHeld=>?_)
   clear hKK KK
   try simp only[Act.put,qa_,qb_,qc_]
   have HNI:=hd_ hni
   clear hni
   have HB2:=hd_ hbz
   clear hb hbz HB1 HTW1
   refine on_ (i:=3) (z:=fun KK hKK=>?_)
   go_simp
   refine(HT1.out wa2 _ _ _ HNI.out).mono ?_
   rintro e wa3 ⟨rfl,hb⟩
   dsimp only
   have hbz:=below_then HB2.out hb (lr_ _)
   have HTW3:=hd_ (HTW2.out.call hb)
   refine hKK.out _ _ (HSS.out _ hbz) (fun hHeld=>?_)
   clear hKK KK
   try simp only[Act.put,qa_,qb_,qc_]
   have HB3:=hd_ hbz
   clear hb hbz HB2 HTW2
   refine on_ (i:=5) (z:=fun KK hKK=>?_)
   go_simp
   refine(kidC_any _ nb 2 _ _ _ wa3 (NdC.below HB3.out _ _ _ _ HZ.out.2.2.2.2.2.2.1) (by decide)).mono ?_
   rintro e wa4 ⟨hb,t6,A6,l6,k6,K6,m6,u6,rfl,hni⟩
   dsimp only
   have hbz:=below_then HB3.out hb (lr_ _)
   have HTW4:=hd_ (HTW3.out.call hb)
   refine hKK.out _ _ (HSS.out _ hbz) (fun hHeld=>?_)
   clear hKK KK
   try simp only[Act.put,qa_,qb_,qc_]
   have HNI:=hd_ hni
   clear hni
   have HB4:=hd_ hbz
   clear hb hbz HB3 HTW3
   refine on_ (i:=6) (z:=fun KK hKK=>?_)
   go_simp
   refine(HT2.out wa4 _ _ _ HNI.out).mono ?_
   rintro e wa5 ⟨rfl,hb⟩
   dsimp only
   have hbz:=below_then HB4.out hb (lr_ _)
   have HTW5:=hd_ (HTW4.out.call hb)
   refine hKK.out _ _ (HSS.out _ hbz) (fun hHeld=>?_)
   clear hKK KK
   try simp only[Act.put,qa_,qb_,qc_]
   have HB5:=hd_ hbz
   clear hb hbz HB4 HTW4
   refine tk_ (i:=7) (z:=?_)
   obtain⟨f0,f1,f2,f3,f4⟩:=fz5 HTW5.out.box
   obtain⟨s0,s1,s2,s3,s4⟩:=box5 HTW5.out.box
   refine on_ (i:=9) (z:=fun KK hKK=>?_)
   go_simp
   refine hKK.out _ _ (HSS.out _ (set5_below HTW5.out.low HB5.out _ _ _ _ _)) (fun hHeld=>?_)
   clear hKK KK
   try simp only[Act.put,qa_,qb_,qc_]
   clear f0 f1 f2 f3 f4 s0 s1 s2 s3 s4
   refine wpAnyH_done (by kernel_rfl) ?_ _
   refine NoPanic.normal ?_
   go_wp2_with fail
   go_meet
   exact⟨b6,rfl,hd_ ⟨set5_below HTW5.out.low HB5.out _ _ _ _ _,HTW5.out.low,set5_box HTW5.out.box _ _ _ _ _⟩⟩
 case rest=>
  obtain⟨b6,rfl,HW⟩:=hcut
  have hs3:=(Array.getElem?_eq_some_iff.1 HZ.out.2.2.2.2.1).1
  obtain⟨_,x0,x1,x2⟩:=st3 ((HW.out.bel.block _ hs3).trans HZ.out.2.2.2.2.1)
  have HC4:=hd_ (kidC_any _ nb 3 _ _ _ wc (NdC.below HW.out.bel _ _ _ _ HZ.out.2.2.2.2.2.2.1) (by decide))
  obtain⟨n3,hn3⟩:=nm_ (kidF nb 3)
  rw[hn3] at HC4
  have HN3:=hd_ hn3
  clear hs3 hn3 HT1 HT2
  go_wp2_with fail
  clear x0 x1 x2
  refine HC4.out.mono ?_
  rintro e wy ⟨hby,t8,A8,l8,k8,K8,m8,u8,rfl,hnk⟩
  obtain⟨t9,b9,ks⟩:=n3
  obtain⟨_,_,_,K',ck,eK,hK1,hK2,hK3⟩:=NdC.kidsL hnk
  obtain⟨eK1,eK2,eK3⟩:K8=K'∧m8=ks.length∧u8=ck:=by simp only[Value.slice.injEq] at eK;exact eK
  subst eK1 eK3
  clear eK
  obtain⟨kk,hkk⟩:=nm_ (min m8 256)
  have hmin:min ((m8:Nat):Int) 256=((kk:Nat):Int):=by rw[←hkk];omega
  have hkc:(kk:Int)≤(u8:Int):=by omega
  have hkc2:kk≤u8:=by omega
  have h9:u8≤9223372036854775807:=by unfold maxLen at hK2;omega
  have htk:ks.take 256=ks.take kk:=by
   rw[←hkk,eK2]
   rcases Nat.le_total ks.length 256 with h |h
   ·rw[Nat.min_eq_left h,List.take_of_length_le h,List.take_of_length_le (lr_ _)]
   ·rw[Nat.min_eq_right h]
  have HWY:=hd_ (HW.out.call hby)
  have HL:=hd_ (ai_ (show kk≤ks.length by omega) (ai_ (show kk≤256 by omega) (ai_ htk (ai_ hK3 (show b6<wy.heap.size from(Array.getElem?_eq_some_iff.1 HWY.out.box).1)))))
  have hfld:=fun W=>fld2 t8 A8 l8 k8 K8 m8 u8 W
  clear hby hnk hK1 hK2 hK3 hkk htk eK2 HC4 HW
  go_wp2_with fail
  go_loopg [37] (kk+1) (fun gk s37 wx=>∃(i:Nat) (Av:Option Addr) (cv:Nat),s37=.int .i64 i∧i≤kk∧kk - i<gk∧Hid (TW wz b6 (.slice A5 l5 k5) (.int .i64 v1) (.int .i64 v2) (.slice Av i cv) (.int .i64 0) wx∧SR wy b6 (.slice Av i cv) i ((ks.take i).map (fun k=>(intF k.body).1)) wx∧wy.heap.size≤wx.heap.size))
  case atStart=>exact⟨0,none,0,rfl,by omega,by omega,hd_ ⟨HWY.out,⟨Below.refl _ _,HL.out.2.2.2.2,World.ownsRow_nil _ _ _ _,fun _ h=>by simp at h⟩,lr_ _⟩⟩
  case round=>
   obtain⟨i,Av,cv,rfl,hi,hgk,HR⟩:=hrel
   clear hfld hmin
   by_cases hlt:i<kk
   ·have hltz:(i:Int)< (kk:Int):=by omega
    obtain⟨gk',rfl⟩: ∃g',gk=g'+1:=⟨gk - 1,by omega⟩
    have HM:=hd_ (ai_ (show i+1≤kk from hlt) (show kk - (i+1)<gk' by omega))
    have hix:i<ks.length:=by have:=HL.out.1;omega
    have hLr:Lst ndE (fun g=>g<wz.heap.size) wr K8 ks:=HL.out.2.2.2.1.on HR.out.2.2 (fun g hg _=>(HR.out.1.bel.block g hg).trans (HWY.out.bel.block g hg).symm) (fun g hg _=>hg)
    obtain⟨g,off,t1,A1',l1',k1',K1',m1',n1',rfl,e0,e1,e2,hn1⟩:=nd_cells hLr (br_ _ wr) i hix
    obtain⟨W2,hW2⟩:=nm_ (wr.alloc (.cells #[.int .u8 t1,.slice A1' l1' k1',.slice K1' m1' n1'] 40))
    have hbx:Below wr.heap.size wr W2:=by rw[←hW2];exact below_new _ _
    have p2:W2.heap[wr.heap.size]? =some (.cells #[.int .u8 t1,.slice A1' l1' k1',.slice K1' m1' n1'] 40):=by rw[←hW2];exact heap_new_ _ _
    obtain⟨_,x0,x1,x2⟩:=st3 p2
    obtain⟨h1,h2,h3,h4⟩:=body_size hn1
    have HC:=hd_ (int_any A1' l1' k1' ks[i].body W2 (h3.below hbx) h1 h2)
    have htake:ks.take (i+1)=ks.take i++[ks[i]]:=by rw[List.take_add_one,List.getElem?_eq_getElem hix];rfl
    have hy64:I64 (intF ks[i].body).1:=by
     have:=take_i64 h3.fit
     unfold intF
     split
     ·exact this
     ·show I64 0;unfold I64;decide
    have hmap:(ks.take (i+1)).map (fun k=>(intF k.body).1)=(ks.take i).map (fun k=>(intF k.body).1)++[(intF ks[i].body).1]:=by rw[htake,List.map_append];rfl
    obtain⟨y,hy⟩:=nm_ (intF ks[i].body).1
    obtain⟨ey,hey⟩:=nm_ (intF ks[i].body).2
    rw[hy,hey] at HC
    rw[hy] at hy64 hmap
    have HY:=hd_ (ai_ hy64 (ai_ hmap (ai_ hbx HL.out.2.1)))
    clear hLr hn1 p2 h1 h2 h3 h4 htake hy64 hmap hy hey hix hbx
    go_wp2_with fail
    clear x0 x1 x2 e0 e1 e2
    refine HC.out.mono ?_
    rintro e w9 ⟨rfl,hb9⟩
    have hb9:=below_then HY.out.2.2.1 hb9 (lr_ _)
    obtain⟨A',c',W3,hrun,hSR,hsz,hk3⟩:=HR.out.2.1.push HR.out.2.2 hb9 HY.out.1 (by have:=HY.out.2.2.2;omega)
    have e3:=(box5 (HR.out.1.call hb9).box).2.2.2.1
    have hT3:TW wz b6 (.slice A5 l5 k5) (.int .i64 v1) (.int .i64 v2) (.slice Av i cv) (.int .i64 0) W3:=⟨HWY.out.bel.trans (hSR.bel.mono HWY.out.low),HWY.out.low,(hk3 b6 HL.out.2.2.2.2).trans HR.out.1.box⟩
    have f3:=(fz5 hT3.box).2.2.2.1
    have g3:=(box5 hT3.box).2.2.2.1
    rw[←HY.out.2.1] at hSR
    have HS:=hd_ (ai_ (hT3.s3 (.slice A' (i+1) c')) (ai_ (hSR.s3 (.slice A' (i+1) c')) (show wy.heap.size≤(W3.setCell ⟨b6,3,none⟩ (.slice A' (i+1) c')).heap.size by rw[set_size];exact hsz)))
    clear hb9 hSR hsz hk3 hT3 HC HR HY hW2
    go_wp2_with (at_builtin;refine wpl_append rfl (.tmp 48) (.tmp 50) 24 rfl _ _ _ rfl rfl hrun ?_)
    clear hrun e3
    go_wp2
    go_roundg gk'
    case measure=>omega
    case rel=>exact⟨i+1,A',c',by go_num,HM.out.1,HM.out.2,HS⟩
   ·obtain rfl:kk=i:=by omega
    have hltz: ¬(kk:Int)< (kk:Int):=by omega
    have hbW:=below_then HZ.out.1 HR.out.1.bel (lr_ _)
    have hzs:=HZ.out.2.1
    have hws:=HR.out.1.bel.size
    have p0:=(HR.out.1.bel.block w.heap.size (by omega)).trans HZ.out.2.2.1
    obtain⟨_,x0,x1,x2⟩:=st3 p0
    have HC5:=hd_ (kidC_any _ n 1 _ _ _ wr (NdC.below HR.out.1.bel _ _ _ _ HZ.out.2.2.2.2.2.1) (by decide))
    clear hbW p0 hgk hzs hws
    go_wp2_with fail
    clear x0 x1 x2
    refine HC5.out.mono ?_
    rintro e wq ⟨hbq,tq,Aq,lq,kq,Kq,mq,uq,rfl,hnq⟩
    obtain⟨h1,h2,h3,_⟩:=body_size hnq
    have HC6:=hd_ (vtc.number_any Aq lq kq (kidF n 1).body wq h3 h1 h2)
    have hfld:=fun W=>fld1 tq Aq lq kq Kq mq uq W
    have hi64:I64 ((numF (kidF n 1).body).getD (-1)):=by
     cases hq:numF (kidF n 1).body with
     |none=>show I64 (-1);unfold I64;decide
     |some v=>exact numF_i64 h3.fit hq
    obtain⟨sg,hsg⟩:=nm_ ((numF (kidF n 1).body).getD (-1))
    obtain⟨ok,hok⟩:=nm_ (numF (kidF n 1).body).isSome
    unfold NumPost at HC6
    rw[hsg,hok] at HC6
    rw[hsg] at hi64
    have hTq:=HR.out.1.call hbq
    have hSq:=own_keep HR.out.2.1.own (fun g _ hg=>hbq.block g hg)
    have f4:=(fz5 hTq.box).2.2.2.2
    have g4:=(box5 hTq.box).2.2.2.2
    have hT4:=hTq.s4 (.int .i64 sg)
    have hS4:(wq.setCell ⟨b6,4,none⟩ (.int .i64 sg)).ownsRow wy.heap.size 2 1 (.slice Av kk cv) kk (ivals ((ks.take kk).map (fun k=>(intF k.body).1))):=own_keep hSq (fun g hg _=>set_heap_other _ _ _ _ _ (by have:=HL.out.2.2.2.2;omega))
    have hz4:wz.heap.size≤wq.heap.size:=hTq.bel.size
    have hzy:wy.heap.size≤wq.heap.size:=Nat.le_trans HR.out.2.2 hbq.size
    have HX:=hd_ (ai_ hi64 (ai_ hsg (ai_ hT4 (ai_ hS4 (ai_ hz4 (ai_ HR.out.2.1.fit hzy))))))
    clear hbq hnq h1 h2 h3 hi64 hsg hok hTq hSq hT4 hS4 hz4 hzy HC5 HR
    go_wp2_with fail
    refine HC6.out.mono ?_
    rintro e w' ⟨rfl,rfl⟩
    clear HC6 hfld
    obtain⟨WF,hWF⟩:=nm_ (w'.setCell ⟨b6,4,none⟩ (.int .i64 sg))
    have hWS:WF.heap.size=w'.heap.size:=by rw[←hWF,set_size]
    have hX:=HX.out
    rw[hWF] at hX
    have HX:=hd_ (ai_ hX hWS)
    clear hX hWS
    obtain⟨s0,s1,s2,s3,s4⟩:=box5 HX.out.1.2.2.1.box
    have q1:=(HX.out.1.2.2.1.bel.block (w.heap.size+1) (by have:=HZ.out.2.1;omega)).trans HZ.out.2.2.2.1
    obtain⟨y0,y1,y2,y3,y4⟩:=box5 q1
    obtain⟨f0,f1,f2,f3,f5⟩:=fz5 q1
    obtain⟨r0,r1,r2,r3,r4⟩:=box5 (set5_box q1 (.slice A5 l5 k5) (.int .i64 v1) (.int .i64 v2) (.slice Av kk cv) (.int .i64 sg))
    unfold set5 at r0 r1 r2 r3 r4
    clear q1
    go_wp2_with fail
    refine bodyPost_ret (v:=.agg #[.slice A5 l5 k5,.int .i64 v1,.int .i64 v2,.slice Av kk cv,.int .i64 sg]) ?_ rfl ⟨set5_below (by omega) (below_then HZ.out.1 HX.out.1.2.2.1.bel (lr_ _)) _ _ _ _ _,_,_,_,_,_,rfl,?_⟩
    ·simp[results,Tryz.results24,go_sem,r0,r1,r2,r3,r4]
    ·have hzz:=HZ.out.2.1
     have hk5: ∀g,g≠w.heap.size+1→(set5 WF (w.heap.size+1) (.slice A5 l5 k5) (.int .i64 v1) (.int .i64 v2) (.slice Av kk cv) (.int .i64 sg)).heap[g]? =WF.heap[g]? :=fun g hg=>set5_other hg _ _ _ _ _
     have hc:tellL n=⟨iss,v1,v2,(ks.take kk).map (fun k=>(intF k.body).1),sg⟩:=by
      unfold tellL
      rw[HI.out.1,HI.out.2.1,HI.out.2.2.1,HI.out.2.2.2.1,HN3.out]
      show Cr.mk iss v1 v2 ((ks.take 256).map _) _=_
      rw[HL.out.2.2.1,HX.out.1.2.1]
     rw[hc]
     refine⟨?_,⟨rfl,HI.out.2.2.2.2.1⟩,⟨rfl,HI.out.2.2.2.2.2⟩,?_,⟨rfl,HX.out.1.1⟩⟩
     ·exact HZ.out.2.2.2.2.2.2.2.on (by show wz.heap.size≤(set5 WF (w.heap.size+1) _ _ _ _ _).heap.size;rw[set5_size,HX.out.2];exact HX.out.1.2.2.2.2.1) (fun g hg hl=>(hk5 g (by omega)).trans (HX.out.1.2.2.1.bel.block g hl)) (fun g hg _=>by omega)
     ·have hS5:=own_keep HX.out.1.2.2.2.1 (w':=set5 WF (w.heap.size+1) (.slice A5 l5 k5) (.int .i64 v1) (.int .i64 v2) (.slice Av kk cv) (.int .i64 sg)) (fun g hg _=>hk5 g (by have:=HL.out.2.2.2.2;have:=HWY.out.low;omega))
      have hins:=Ins.own hS5 HX.out.1.2.2.2.2.2.1
      rcases hS5.2 with ⟨e5,h0⟩ | ⟨g5,cap,cur,e5,hbg,hg5,hc1,hc2,_⟩
      ·obtain⟨rfl,rfl⟩:Av=none∧cv=0:=by simp only[Value.slice.injEq] at e5;exact⟨e5.1,e5.2.2⟩
       exact⟨none,kk,0,rfl,by omega,Nat.zero_le _,hins,fun hp=>by omega⟩
      ·obtain⟨rfl,rfl⟩:Av=some ⟨g5,0,none⟩∧cv=cap:=by simp only[Value.slice.injEq,true_and] at e5;exact e5
       exact⟨_,kk,cv,rfl,hc1,hc2,hins,fun _ g off sp e=>by cases e;have:=HL.out.2.2.2.2;have:=HWY.out.low;omega⟩
end Go.Proofs.YtconbejjagcnkaaGreatDoor.nmc
