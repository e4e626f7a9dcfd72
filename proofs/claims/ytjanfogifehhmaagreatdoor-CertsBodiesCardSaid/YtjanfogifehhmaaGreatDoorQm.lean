/- The certificate of bytes: the program's Get. -/
import Derived.Test.YtjanfogifehhmaaGreatDoorQh
set_option maxRecDepth 100000
set_option maxHeartbeats 1600000
set_option linter.unusedVariables false
set_option linter.unusedSimpArgs false
namespace Go.Proofs.YtjanfogifehhmaaGreatDoor.nmc
open Go.RowKit tlvc tlvd ndc txc txm intc intm vtc
theorem getC_s4 (A:Option Addr)(n k:Nat)(xs:List Int)(w:World)(hx:Bys w A n xs)(hc:n≤k)(hm:k≤maxLen)(hT:Tabs w)(hM:stepC xs=4):
 Calls Tryz.prog 14 #[.slice A n k] w (RGet w (getRes xs).1 (getRes xs).2):=by
 obtain⟨W0,hW0⟩:=nm_ (w.alloc (.cells #[.int .i64 0,.slice none 0 0,.int .i64 0,.int .i64 0,.slice none 0 0,.int .i64 0,.bool false,.bool false,.int .i64 0,.int .u16 0,.slice none 0 0,.slice none 0 0,.slice none 0 0,.slice none 0 0,.slice none 0 0,.int .i64 0] 32))
 have hb0:Below w.heap.size w W0:=by rw[←hW0];exact below_new _ _
 have hz0:W0.heap.size=w.heap.size+1:=by rw[←hW0];simp
 have p0:W0.heap[w.heap.size]? =some (.cells #[.int .i64 0,.slice none 0 0,.int .i64 0,.int .i64 0,.slice none 0 0,.int .i64 0,.bool false,.bool false,.int .i64 0,.int .u16 0,.slice none 0 0,.slice none 0 0,.slice none 0 0,.slice none 0 0,.slice none 0 0,.int .i64 0] 32):=by rw[←hW0];exact heap_new_ _ _
 have HP:=hd_ (parse_any A n k xs W0 (hx.below hb0) hc hm (hT.below hb0))
 obtain⟨R,hR⟩:=nm_ (getRes xs).1
 obtain⟨ER,hER⟩:=nm_ (getRes xs).2
 rw[hR,hER]
 obtain⟨RR',hRR⟩:=nm_ (readAllF xs)
 rw[hRR] at HP
 have HR:=hd_ (ai_ hR (ai_ hER hRR))
 have HZ:=hd_ (ai_ hb0 (ai_ hz0 (ai_ p0 (ai_ hT hx))))
 have hkk:=hc
 clear hb0 hz0 p0 hT hx hR hER hRR
 go_enter Tryz.func14,Tryz.ntmps14
 go_wp2_with fail
 refine HP.out.mono ?_
 rintro e w1 ⟨hb1,hpost⟩
 cases RR' with
 |bad a er=>
  have hne:=readAll_ne HR.out.2.2
  have hR1:none=R:=by rw[←HR.out.1];unfold getRes;rw[HR.out.2.2]
  have hR2:er=ER:=by rw[←HR.out.2.1];unfold getRes;rw[HR.out.2.2]
  subst hR1 hR2
  obtain rfl:=hpost
  exact absurd (hM.symm.trans (show stepC xs=0 by unfold stepC;rw[HR.out.2.2])) (by decide)
 |ok nd nx=>
  have hR1:some (getC nd xs)=R:=by rw[←HR.out.1];unfold getRes;rw[HR.out.2.2]
  obtain⟨G,hG⟩:=nm_ (getC nd xs)
  rw[hG] at hR1
  subst hR1
  obtain⟨v,rfl,c0,c1,c2,rfl,hn⟩:=hpost
  obtain⟨t1,D1,d1,g1,K1,k1,u1,rfl,rfl,rfl⟩:=hn.shape
  obtain⟨W2,hW2⟩:=nm_ (w1.alloc (.cells #[.int .u8 t1,.slice D1 d1 g1,.slice K1 k1 u1] 49))
  have hb2:Below w1.heap.size w1 W2:=by rw[←hW2];exact below_new _ _
  have v2:W2.heap[w1.heap.size]? =some (.cells #[.int .u8 t1,.slice D1 d1 g1,.slice K1 k1 u1] 49):=by rw[←hW2];exact heap_new_ _ _
  obtain⟨_,s0,s1,s2⟩:=st3 v2
  have hbw:=below_then hb1 hb2 (lr_ _)
  have hbww:=below_then HZ.out.1 hbw (lr_ _)
  have HC:=hd_ (toldBy_any _ nd _ _ _ W2 (NdC.below hb2 _ _ _ _ hn) (HZ.out.2.2.2.1.below hbww))
  obtain⟨TT,hTT⟩:=nm_ (toldC nd)
  rw[hTT] at HC
  have HG:=hd_ (ai_ hG hTT)
  have HW:=hd_ hbw
  clear hb1 hb2 v2 hn hG hTT hbw hbww HP
  go_wp2_with fail
  clear s0 s1 s2
  refine HC.out.mono ?_
  rintro e w3 ⟨hb3,hpost⟩
  cases TT with
  |none=>
   have hG:none=G:=by rw[←HG.out.1];unfold getC;rw[HG.out.2];rfl
   subst hG
   obtain rfl:=hpost
   exact absurd (hM.symm.trans (show stepC xs=1 by unfold stepC;rw[HR.out.2.2];simp only;rw[HG.out.2])) (by decide)
  |some c=>
   obtain⟨c0,c1,c2,c3,c4,c5,x0,x1,x2,x3,x4,x5,x6,x7,x8,c6,rfl,hcc⟩:=hpost
   obtain⟨a0,E1,e1,h1,a2,a3,E4,e4,h4,a5,q0,q1,q2,q3,F4,m4,j4,F5,m5,j5,F6,m6,j6,F7,m7,j7,F8,m8,j8,a7,rfl,rfl,rfl,rfl,rfl,rfl,rfl,rfl,rfl,rfl,rfl,rfl,rfl,rfl,rfl,rfl⟩:=ceC_shape hcc
   have hG:aftC c xs (putC c)=G:=by rw[←HG.out.1];exact(getC_put HG.out.2).symm
   obtain⟨W4,hW4⟩:=nm_ (w3.alloc (.cells #[.int .i64 a0,.slice E1 e1 h1,.int .i64 a2,.int .i64 a3,.slice E4 e4 h4,.int .i64 a5,.bool q0,.bool q1,.int .i64 q2,.int .u16 q3,.slice F4 m4 j4,.slice F5 m5 j5,.slice F6 m6 j6,.slice F7 m7 j7,.slice F8 m8 j8,.int .i64 a7] 32))
   have hb4:Below w3.heap.size w3 W4:=by rw[←hW4];exact below_new _ _
   have v4:W4.heap[w3.heap.size]? =some (.cells #[.int .i64 a0,.slice E1 e1 h1,.int .i64 a2,.int .i64 a3,.slice E4 e4 h4,.int .i64 a5,.bool q0,.bool q1,.int .i64 q2,.int .u16 q3,.slice F4 m4 j4,.slice F5 m5 j5,.slice F6 m6 j6,.slice F7 m7 j7,.slice F8 m8 j8,.int .i64 a7] 32):=by rw[←hW4];exact heap_new_ _ _
   obtain⟨⟨s0,s1,s2,s3,s4,s5⟩,⟨s6,s7,s8,s9,s10,s11,s12,s13,s14⟩,s15⟩:=box16 v4
   have hbw:=below_then (below_then HW.out hb3 (lr_ _)) hb4 (lr_ _)
   have hbww:=below_then HZ.out.1 hbw (lr_ _)
   have hc4:=hcc.below hb4
   have HC2:=hd_ (put_cert _ c _ _ _ _ _ _ _ _ _ _ _ _ _ _ _ _ W4 hc4 (HZ.out.2.2.2.1.below hbww))
   obtain⟨PW,hPW⟩:=nm_ (putC c)
   rw[hPW] at HC2 hG
   have HG2:=hd_ (ai_ hG (ai_ hPW HG.out.2))
   have HW4:=hd_ (ai_ hbw (ai_ v4 hc4))
   have HF3:=hd_ (show W0.heap.size≤W2.heap.size from HW.out.size)
   clear hb3 hb4 v4 hcc hc4 hG hPW hbw hbww HC HG
   go_wp2_with fail
   clear s0 s1 s2 s3 s4 s5 s6 s7 s8 s9 s10 s11 s12 s13 s14 s15
   refine HC2.out.mono ?_
   rintro e w5 ⟨hb5,hpost⟩
   cases PW with
   |no er=>
    have hne:=putC_ne HG2.out.2.1
    have hG:none=G:=HG2.out.1
    subst hG
    obtain rfl:=hpost
    exact absurd (hM.symm.trans (show stepC xs=2 by unfold stepC;rw[HR.out.2.2];simp only;rw[HG2.out.2.2];simp only;rw[HG2.out.2.1])) (by decide)
   |ok x=>
    obtain⟨D,dc,rfl,h1',⟨h2',h3'⟩,_⟩:=hpost
    have hbx:=below_then (below_then HZ.out.1 HW4.out.1 (lr_ _)) hb5 (lr_ _)
    have HE:=hd_ (intc.equal_any D A x.length dc n k x xs w5 h1' (HZ.out.2.2.2.2.below hbx))
    obtain⟨sb,hsb⟩:=nm_ (intc.sameB x xs)
    rw[hsb] at HE
    have hsb':(if x=xs then some c else none)=G:=HG2.out.1
    have hfx:=h1'.fit
    have hfs:=HZ.out.2.2.2.2.fit
    obtain⟨lx,hlx⟩:=nm_ x.length
    rw[hlx] at HE⊢
    have HS:=hd_ (ai_ hsb (ai_ hsb' (ai_ hfx hfs)))
    have HB5:=hd_ hb5
    clear hb5 h1' h2' h3' hbx hsb hsb' hfx hfs hlx HC2
    go_wp2_with fail
    refine HE.out.mono ?_
    rintro e w6 ⟨rfl,rfl⟩
    cases sb
    ·have hG:none=G:=by rw[←HS.out.2.1,if_neg (fun e=>by have h:=HS.out.1;rw[(intc.sameB_iff HS.out.2.2.1 HS.out.2.2.2).2 e] at h;cases h)]
     subst hG
     exact absurd (hM.symm.trans (show stepC xs=3 by unfold stepC;rw[HR.out.2.2];simp only;rw[HG2.out.2.2];simp only;rw[HG2.out.2.1];simp only;rw[if_neg (fun e=>by have h:=HS.out.1;rw[(intc.sameB_iff HS.out.2.2.1 HS.out.2.2.2).2 e] at h;cases h)])) (by decide)
    ·have hG:some c=G:=by rw[←HS.out.2.1,if_pos ((intc.sameB_iff HS.out.2.2.1 HS.out.2.2.2).1 HS.out.1)]
     subst hG
     clear hM
     have hbx:=below_then HW4.out.1 HB5.out (lr_ _)
     have hz:=HZ.out.2.1
     have hx:=(hbx.block w.heap.size (by omega)).trans HZ.out.2.2.1
     have hbel:=below_then HZ.out.1 hbx (lr_ _)
     have hc5:=HW4.out.2.2.below HB5.out
     have v5:=(HB5.out.block _ (Array.getElem?_eq_some_iff.1 HW4.out.2.1).1).trans HW4.out.2.1
     obtain⟨⟨t0,t1,t2,t3,t4,t5⟩,⟨t6,t7,t8,t9,t10,t11,t12,t13,t14⟩,t15⟩:=box16 v5
     have HF:=hd_ (ai_ (finz (c0:=.int .i64 a0) (c1:=.slice E1 e1 h1) (c2:=.int .i64 a2) (c3:=.int .i64 a3) (c4:=.slice E4 e4 h4) (c5:=.int .i64 a5) (x0:=.bool q0) (x1:=.bool q1) (x2:=.int .i64 q2) (x3:=.int .u16 q3) (x4:=.slice F4 m4 j4) (x5:=.slice F5 m5 j5) (x6:=.slice F6 m6 j6) (x7:=.slice F7 m7 j7) (x8:=.slice F8 m8 j8) (c6:=.int .i64 a7) hbel hx) (ai_ hc5 (show w.heap.size+1≤W2.heap.size by have:=HF3.out;omega)))
     obtain⟨⟨f0,f1,f2,f3,f4,f5⟩,⟨f6,f7,f8,f9,f10,f11,f12,f13,f14⟩,f15⟩:=fz16 hx
     obtain⟨⟨s0,s1,s2,s3,s4,s5⟩,⟨s6,s7,s8,s9,s10,s11,s12,s13,s14⟩,s15⟩:=box16 hx
     clear hbel hx hbx hz hc5 v5 HE HS HB5 HW4 HG2 HR HW HF3
     go_wp2_with fail
     clear f0 s0 f1 s1 f2 s2 f3 s3 f4 s4 f5 s5 f6 s6 f7 s7 f8 s8 f9 s9 f10 s10 f11 s11 f12 s12 f13 s13 f14 s14 f15 s15
     clear t0 t1 t2 t3 t4 t5 t6 t7 t8 t9 t10 t11 t12 t13 t14 t15
     obtain⟨W9,hW9⟩:=nm_ (setN w5 w.heap.size 0 [.int .i64 a0,.slice E1 e1 h1,.int .i64 a2,.int .i64 a3,.slice E4 e4 h4,.int .i64 a5,.bool q0,.bool q1,.int .i64 q2,.int .u16 q3,.slice F4 m4 j4,.slice F5 m5 j5,.slice F6 m6 j6,.slice F7 m7 j7,.slice F8 m8 j8,.int .i64 a7])
     obtain⟨hF,hc,hW2w⟩:=HF.out
     obtain⟨hq,hb,hoth,hsz⟩:=hF W9 hW9
     have hc9:=hc.on (S':=fun g=>w.heap.size≤g) (by rw[hsz];exact lr_ _) (fun g (hg:W2.heap.size≤g) _=>hoth g (by omega)) (fun g (hg:W2.heap.size≤g) _=>by omega)
     simp only[setN] at hW9
     rw[hW9]
     obtain⟨⟨r0,r1,r2,r3,r4,r5⟩,⟨r6,r7,r8,r9,r10,r11,r12,r13,r14⟩,r15⟩:=box16 hq
     refine bodyPost_ret (v:=.tuple #[.agg #[.int .i64 a0,.slice E1 e1 h1,.int .i64 a2,.int .i64 a3,.slice E4 e4 h4,.int .i64 a5,.bool q0,.bool q1,.int .i64 q2,.int .u16 q3,.slice F4 m4 j4,.slice F5 m5 j5,.slice F6 m6 j6,.slice F7 m7 j7,.slice F8 m8 j8,.int .i64 a7],.int .i64 0]) ?_ rfl ⟨hb,_,_,_,_,_,_,_,_,_,_,_,_,_,_,_,_,rfl,hc9⟩
     exact ret14 rfl rfl hq
end Go.Proofs.YtjanfogifehhmaaGreatDoor.nmc
