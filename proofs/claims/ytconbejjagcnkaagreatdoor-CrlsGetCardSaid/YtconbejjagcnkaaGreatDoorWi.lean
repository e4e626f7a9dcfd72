/- The list of bytes: the program's Get. -/
import Derived.Test.YtconbejjagcnkaaGreatDoorWh
set_option maxRecDepth 100000
set_option maxHeartbeats 16000000
set_option linter.unusedVariables false
set_option linter.unusedSimpArgs false
namespace Go.Proofs.YtconbejjagcnkaaGreatDoor.nmc
open Go.RowKit tlvc tlvd ndc txc txm intc intm vtc
def RGetL (w:World)(r:Int × Option Cr)(e:Ending)(w':World):Prop:=Below w.heap.size w w'∧match r.2 with
 |none=>e=.returned (.tuple #[.agg #[.slice none 0 0,.int .i64 0,.int .i64 0,.slice none 0 0,.int .i64 0],.int .i64 r.1])
 |some c=>∃c0 c1 c2 c3 c4,e=.returned (.tuple #[.agg #[c0,c1,c2,c3,c4],.int .i64 r.1])∧CrC (fun g=>w.heap.size≤g) w' c c0 c1 c2 c3 c4
theorem getL_any (A:Option Addr)(n k:Nat)(xs:List Int)(w:World)(hx:Bys w A n xs)(hc:n≤k)(hm:k≤maxLen)(hT:Tabs w):
 Calls Tryz.prog 10 #[.slice A n k] w (RGetL w (resL xs)):=by
 obtain⟨W0,hW0⟩:=nm_ (w.alloc (.cells #[.slice none 0 0,.int .i64 0,.int .i64 0,.slice none 0 0,.int .i64 0] 26))
 have hb0:Below w.heap.size w W0:=by rw[←hW0];exact below_new _ _
 have p0:W0.heap[w.heap.size]? =some (.cells #[.slice none 0 0,.int .i64 0,.int .i64 0,.slice none 0 0,.int .i64 0] 26):=by rw[←hW0];exact heap_new_ _ _
 have hz0:W0.heap.size=w.heap.size+1:=by rw[←hW0];simp
 have HP:=hd_ (parse_any A n k xs W0 (hx.below hb0) hc hm (hT.below hb0))
 obtain⟨R,hR⟩:=nm_ (readAllF xs)
 rw[hR] at HP
 obtain⟨RES,hRES⟩:=nm_ (resL xs)
 rw[hRES]
 have HR:=hd_ (ai_ hR hRES)
 have HA:=hd_ (ai_ hb0 (ai_ p0 (ai_ hz0 (ai_ (hT.below hb0) (hx.below hb0)))))
 clear hb0 p0 hz0 hx hT hR hRES hm
 go_enter Tryz.func10,Tryz.ntmps10
 go_wp2_with fail
 refine HP.out.mono ?_
 rintro e w1 ⟨hb1,hpost⟩
 cases R with
 |bad a er=>
  have hne:er≠0:=readAll_ne HR.out.1
  have HRR:=hd_ (show(er,none)=RES by rw[←HR.out.2];unfold resL;rw[HR.out.1])
  obtain rfl:=hpost
  have hbn:=below_then hb1 (below_new w1 (.cells #[.int .u8 0,.slice none 0 0,.slice none 0 0] 40)) (lr_ _)
  have q:=(hbn.block w.heap.size (by have:=HA.out.2.2.1;omega)).trans HA.out.2.1
  obtain⟨f0,f1,f2,f3,f4⟩:=fz5 q
  obtain⟨s0,s1,s2,s3,s4⟩:=box5 q
  obtain⟨r0,r1,r2,r3,r4⟩:=box5 (set5_box q (.slice none 0 0) (.int .i64 0) (.int .i64 0) (.slice none 0 0) (.int .i64 0))
  unfold set5 at r0 r1 r2 r3 r4
  have HE:=hd_ (below_then HA.out.1 hbn (lr_ _))
  clear hbn q hb1 HP
  go_wp2_with fail
  refine bodyPost_ret (v:=.tuple #[.agg #[.slice none 0 0,.int .i64 0,.int .i64 0,.slice none 0 0,.int .i64 0],.int .i64 er]) ?_ rfl (by rw[←HRR.out];exact⟨set5_below (lr_ _) HE.out _ _ _ _ _,rfl⟩)
  simp[results,Tryz.results10,go_sem,r0,r1,r2,r3,r4]
 |ok nd nx=>
  obtain⟨v,rfl,c0,c1,c2,rfl,hn⟩:=hpost
  obtain⟨t1,D1,d1,g1,K1,k1,u1,rfl,rfl,rfl⟩:=hn.shape
  obtain⟨W2,hW2⟩:=nm_ (w1.alloc (.cells #[.int .u8 t1,.slice D1 d1 g1,.slice K1 k1 u1] 40))
  have hb2:Below w1.heap.size w1 W2:=by rw[←hW2];exact below_new _ _
  have v2:W2.heap[w1.heap.size]? =some (.cells #[.int .u8 t1,.slice D1 d1 g1,.slice K1 k1 u1] 40):=by rw[←hW2];exact heap_new_ _ _
  obtain⟨_,s0,s1,s2⟩:=st3 v2
  have hbw:=below_then hb1 hb2 (lr_ _)
  have HC:=hd_ (toldL_any _ nd _ _ _ W2 (NdC.below hb2 _ _ _ _ hn) (HA.out.2.2.2.1.below hbw))
  obtain⟨tc,htc⟩:=nm_ (tellL nd)
  rw[htc] at HC
  have HG:=hd_ (show(match aftL tc xs (putL tc) with
   |none=>((121:Int),(none:Option Cr))
   |some c=>(0,some c))=RES by rw[←HR.out.2,←htc,←getT_put];unfold resL;rw[HR.out.1];rfl)
  have HW:=hd_ hbw
  clear hb1 hb2 v2 hn hbw htc HP HR
  go_wp2_with fail
  clear s0 s1 s2
  refine HC.out.mono ?_
  rintro e w3 ⟨hb3,c0,c1,c2,c3,c4,rfl,hcc⟩
  obtain⟨E0,e0,i0,a1,a2,E3,e3,i3,a4,rfl,rfl,rfl,rfl,rfl⟩:=hcc.shape
  obtain⟨W4,hW4⟩:=nm_ (w3.alloc (.cells #[.slice E0 e0 i0,.int .i64 a1,.int .i64 a2,.slice E3 e3 i3,.int .i64 a4] 26))
  have hb4:Below w3.heap.size w3 W4:=by rw[←hW4];exact below_new _ _
  have v4:W4.heap[w3.heap.size]? =some (.cells #[.slice E0 e0 i0,.int .i64 a1,.int .i64 a2,.slice E3 e3 i3,.int .i64 a4] 26):=by rw[←hW4];exact heap_new_ _ _
  obtain⟨s0,s1,s2,s3,s4⟩:=box5 v4
  have hbw:=below_then (below_then HW.out hb3 (lr_ _)) hb4 (lr_ _)
  have hc4:=hcc.below hb4
  have HC2:=hd_ (putL_any _ tc _ _ _ _ _ W4 hc4 (HA.out.2.2.2.1.below hbw))
  obtain⟨PW,hPW⟩:=nm_ (putL tc)
  rw[hPW] at HC2 HG
  have HW4:=hd_ (ai_ hbw (ai_ v4 (ai_ hc4 (ai_ (show W0.heap.size≤W2.heap.size from HW.out.size) (show PW=.no 0→False from fun h=>putL_ne (hPW.trans h) rfl)))))
  have HNE:=hd_ (fun e (h:PW=.no e)=>putL_ne (hPW.trans h))
  clear hb3 hb4 v4 hcc hc4 hPW hbw HC
  go_wp2_with fail
  clear s0 s1 s2 s3 s4
  refine HC2.out.mono ?_
  rintro e w5 ⟨hb5,hpost⟩
  have hbx:=below_then HW4.out.1 hb5 (lr_ _)
  have q:=(hbx.block w.heap.size (by have:=HA.out.2.2.1;omega)).trans HA.out.2.1
  have hv5:=(hb5.block _ (Array.getElem?_eq_some_iff.1 HW4.out.2.1).1).trans HW4.out.2.1
  have hc5:=HW4.out.2.2.1.below hb5
  cases PW with
  |no er=>
   have hne:er≠0:=HNE.out er rfl
   have HRR:=hd_ (show((121:Int),(none:Option Cr))=RES from HG.out)
   obtain rfl:=hpost
   obtain⟨f0,f1,f2,f3,f4⟩:=fz5 q
   obtain⟨s0,s1,s2,s3,s4⟩:=box5 q
   obtain⟨r0,r1,r2,r3,r4⟩:=box5 (set5_box q (.slice none 0 0) (.int .i64 0) (.int .i64 0) (.slice none 0 0) (.int .i64 0))
   unfold set5 at r0 r1 r2 r3 r4
   have HE:=hd_ (below_then HA.out.1 hbx (lr_ _))
   clear hb5 hbx q hv5 hc5 HC2
   go_wp2_with fail
   refine bodyPost_ret (v:=.tuple #[.agg #[.slice none 0 0,.int .i64 0,.int .i64 0,.slice none 0 0,.int .i64 0],.int .i64 121]) ?_ rfl (by rw[←HRR.out];exact⟨set5_below (lr_ _) HE.out _ _ _ _ _,rfl⟩)
   simp[results,Tryz.results10,go_sem,r0,r1,r2,r3,r4]
  |ok x=>
   obtain⟨D,dc,rfl,h1',⟨h2',h3'⟩,_⟩:=hpost
   have HE:=hd_ (intc.equal_any D A x.length dc n k x xs w5 h1' (HA.out.2.2.2.2.below hbx))
   obtain⟨sb,hsb⟩:=nm_ (intc.sameB x xs)
   rw[hsb] at HE
   have hss:=intc.sameB_iff h1'.fit HA.out.2.2.2.2.fit
   rw[hsb] at hss
   obtain⟨lx,hlx⟩:=nm_ x.length
   rw[hlx] at HE⊢
   have HS:=hd_ hss
   have HX:=hd_ (ai_ hbx (ai_ q (ai_ hv5 hc5)))
   clear hb5 hbx q hv5 hc5 h1' h2' h3' hsb hss hlx HC2
   go_wp2_with fail
   refine HE.out.mono ?_
   rintro e w6 ⟨rfl,rfl⟩
   obtain⟨f0,f1,f2,f3,f4⟩:=fz5 HX.out.2.1
   obtain⟨s0,s1,s2,s3,s4⟩:=box5 HX.out.2.1
   cases sb with
   |false=>
    have hxx: ¬x=xs:=fun h=>by have:=HS.out.2 h;cases this
    have HRR:=hd_ (show((121:Int),(none:Option Cr))=RES by rw[←HG.out];unfold aftL;simp only;rw[if_neg hxx])
    obtain⟨r0,r1,r2,r3,r4⟩:=box5 (set5_box HX.out.2.1 (.slice none 0 0) (.int .i64 0) (.int .i64 0) (.slice none 0 0) (.int .i64 0))
    unfold set5 at r0 r1 r2 r3 r4
    clear hxx
    go_wp2_with fail
    refine bodyPost_ret (v:=.tuple #[.agg #[.slice none 0 0,.int .i64 0,.int .i64 0,.slice none 0 0,.int .i64 0],.int .i64 121]) ?_ rfl (by rw[←HRR.out];exact⟨set5_below (lr_ _) (below_then HA.out.1 HX.out.1 (lr_ _)) _ _ _ _ _,rfl⟩)
    simp[results,Tryz.results10,go_sem,r0,r1,r2,r3,r4]
   |true=>
    have hxx:x=xs:=HS.out.1 rfl
    have HRR:=hd_ (show((0:Int),some tc)=RES by rw[←HG.out];unfold aftL;simp only;rw[if_pos hxx])
    obtain⟨y0,y1,y2,y3,y4⟩:=box5 HX.out.2.2.1
    obtain⟨r0,r1,r2,r3,r4⟩:=box5 (set5_box HX.out.2.1 (.slice E0 e0 i0) (.int .i64 a1) (.int .i64 a2) (.slice E3 e3 i3) (.int .i64 a4))
    have hfin:CrC (fun g=>w.heap.size≤g) (set5 w5 w.heap.size (.slice E0 e0 i0) (.int .i64 a1) (.int .i64 a2) (.slice E3 e3 i3) (.int .i64 a4)) tc (.slice E0 e0 i0) (.int .i64 a1) (.int .i64 a2) (.slice E3 e3 i3) (.int .i64 a4):=
     HX.out.2.2.2.on (by rw[set5_size];exact lr_ _) (fun g (hg:W2.heap.size≤g) _=>set5_other (by have:=HW4.out.2.2.2.1;have:=HA.out.2.2.1;omega) _ _ _ _ _) (fun g (hg:W2.heap.size≤g) _=>by have:=HW4.out.2.2.2.1;have:=HA.out.2.2.1;omega)
    have HF:=hd_ hfin
    unfold set5 at r0 r1 r2 r3 r4
    clear hxx hfin
    go_wp2_with fail
    refine bodyPost_ret (v:=.tuple #[.agg #[.slice E0 e0 i0,.int .i64 a1,.int .i64 a2,.slice E3 e3 i3,.int .i64 a4],.int .i64 0]) ?_ rfl (by rw[←HRR.out];exact⟨set5_below (lr_ _) (below_then HA.out.1 HX.out.1 (lr_ _)) _ _ _ _ _,_,_,_,_,_,rfl,HF.out⟩)
    simp[results,Tryz.results10,go_sem,r0,r1,r2,r3,r4]
end Go.Proofs.YtconbejjagcnkaaGreatDoor.nmc
