/- What is signed of a certificate stands in its bytes. -/
import Derived.Test.YtjanfogifehhmaaGreatDoorQs
set_option maxRecDepth 100000
set_option maxHeartbeats 32000000
set_option linter.unusedVariables false
set_option linter.unusedSimpArgs false
namespace Go.Proofs.YtjanfogifehhmaaGreatDoor.nmc
open Go.ChangeShapes Go.WideShapes Go.ChangeAt Go.RowKit Go.Proofs.YtjanfogifehhmaaGreatDoor Go.Proofs.YtjanfogifehhmaaGreatDoor.tlvc Go.Proofs.YtjanfogifehhmaaGreatDoor.tlvd Go.Proofs.YtjanfogifehhmaaGreatDoor.ndc Go.Proofs.YtjanfogifehhmaaGreatDoor.txc Go.Proofs.YtjanfogifehhmaaGreatDoor.intc Go.Proofs.YtjanfogifehhmaaGreatDoor.vtc Go.Proofs.YtjanfogifehhmaaGreatDoor.intm Go.Proofs.YtjanfogifehhmaaGreatDoor.txm
theorem signed_any {S:Nat→Prop}{c:Ce}{a0:Int}{A1:Option Addr}{l1' i1:Nat}{a2 a3:Int}{A4:Option Addr}{l4 i4:Nat}{a5:Int}{q0 q1:Bool}{q2 q3:Int}{B4:Option Addr}{m4 j4:Nat}{B5:Option Addr}{m5 j5:Nat}{B6:Option Addr}{m6 j6:Nat}{B7:Option Addr}{m7 j7:Nat}{B8:Option Addr}{m8 j8:Nat}{a7:Int}(a1:Int)(w:World)(hx:CeC S w c (.int .i64 a0) (.slice A1 l1' i1) (.int .i64 a2) (.int .i64 a3) (.slice A4 l4 i4) (.int .i64 a5) (.bool q0) (.bool q1) (.int .i64 q2) (.int .u16 q3) (.slice B4 m4 j4) (.slice B5 m5 j5) (.slice B6 m6 j6) (.slice B7 m7 j7) (.slice B8 m8 j8) (.int .i64 a7))(w1:(Lit.int .i64 a1).wf=true)(hT:txc.Tabs w):
 Calls Tryz.prog 8 #[.agg #[.int .i64 a0,.slice A1 l1' i1,.int .i64 a2,.int .i64 a3,.slice A4 l4 i4,.int .i64 a5,.bool q0,.bool q1,.int .i64 q2,.int .u16 q3,.slice B4 m4 j4,.slice B5 m5 j5,.slice B6 m6 j6,.slice B7 m7 j7,.slice B8 m8 j8,.int .i64 a7],.int .i64 a1] w fun e w'=>e=.returned (.bool true)∧Below w.heap.size w w':=by
 obtain⟨W0,hW0⟩:=nm_ (w.alloc (.cells #[.int .i64 a0,.slice A1 l1' i1,.int .i64 a2,.int .i64 a3,.slice A4 l4 i4,.int .i64 a5,.bool q0,.bool q1,.int .i64 q2,.int .u16 q3,.slice B4 m4 j4,.slice B5 m5 j5,.slice B6 m6 j6,.slice B7 m7 j7,.slice B8 m8 j8,.int .i64 a7] 32))
 have hb0:Below w.heap.size w W0:=by rw[←hW0];exact below_new _ _
 have v0:W0.heap[w.heap.size]? =some (.cells #[.int .i64 a0,.slice A1 l1' i1,.int .i64 a2,.int .i64 a3,.slice A4 l4 i4,.int .i64 a5,.bool q0,.bool q1,.int .i64 q2,.int .u16 q3,.slice B4 m4 j4,.slice B5 m5 j5,.slice B6 m6 j6,.slice B7 m7 j7,.slice B8 m8 j8,.int .i64 a7] 32):=by rw[←hW0];exact heap_new_ _ _
 have hbw:=fun W (hW:Below W0.heap.size W0 W)=>below_then hb0 hW (lr_ _)
 have HBW:=hd_ hbw
 have HBK:=hd_ (fun W (hW:Below W0.heap.size W0 W)=>(hW.block _ (Array.getElem?_eq_some_iff.1 v0).1).trans v0)
 have HTT:=hd_ (fun W hW=>hT.below (hbw W hW))
 have HXX:=hd_ (fun W (hW:Below W0.heap.size W0 W)=>hx.below (hbw W hW))
 have HHD:=hd_ (head11_any W0 (hT.below hb0))
 have HI:=hd_ (show I64 a1 from bounds_i64 w1)
 obtain⟨R1,hR1⟩:=nm_ (bodyW c)
 obtain⟨R2,hR2⟩:=nm_ (putC c)
 obtain⟨R3,hR3⟩:=nm_ (bodyW {c with sig:=a1})
 have HBD:=hd_ (fun W (hW:Below W0.heap.size W0 W)=>(show Calls Tryz.prog 12 #[.agg #[.int .i64 a0,.slice A1 l1' i1,.int .i64 a2,.int .i64 a3,.slice A4 l4 i4,.int .i64 a5,.bool q0,.bool q1,.int .i64 q2,.int .u16 q3,.slice B4 m4 j4,.slice B5 m5 j5,.slice B6 m6 j6,.slice B7 m7 j7,.slice B8 m8 j8,.int .i64 a7]] W (PU W R1) from hR1▸(body_any _ c _ _ _ _ _ _ _ _ _ _ _ _ _ _ _ _ W (HXX.out W hW) (HTT.out W hW)).mono fun e w' h=>pu_of (fun _ h=>bodyW_ne h) h))
 have HPT:=hd_ (fun W (hW:Below W0.heap.size W0 W)=>(show Calls Tryz.prog 10 #[.agg #[.int .i64 a0,.slice A1 l1' i1,.int .i64 a2,.int .i64 a3,.slice A4 l4 i4,.int .i64 a5,.bool q0,.bool q1,.int .i64 q2,.int .u16 q3,.slice B4 m4 j4,.slice B5 m5 j5,.slice B6 m6 j6,.slice B7 m7 j7,.slice B8 m8 j8,.int .i64 a7]] W (PU W R2) from hR2▸(put_cert _ c _ _ _ _ _ _ _ _ _ _ _ _ _ _ _ _ W (HXX.out W hW) (HTT.out W hW)).mono fun e w' h=>pu_of (fun _ h=>putC_ne h) h))
 have HBX:=hd_ (fun W (hW:Below W0.heap.size W0 W) (hy:CeC S W {c with sig:=a1} (.int .i64 a0) (.slice A1 l1' i1) (.int .i64 a2) (.int .i64 a3) (.slice A4 l4 i4) (.int .i64 a5) (.bool q0) (.bool q1) (.int .i64 q2) (.int .u16 q3) (.slice B4 m4 j4) (.slice B5 m5 j5) (.slice B6 m6 j6) (.slice B7 m7 j7) (.slice B8 m8 j8) (.int .i64 a1))=>(show Calls Tryz.prog 12 #[.agg #[.int .i64 a0,.slice A1 l1' i1,.int .i64 a2,.int .i64 a3,.slice A4 l4 i4,.int .i64 a5,.bool q0,.bool q1,.int .i64 q2,.int .u16 q3,.slice B4 m4 j4,.slice B5 m5 j5,.slice B6 m6 j6,.slice B7 m7 j7,.slice B8 m8 j8,.int .i64 a1]] W (PU W R3) from hR3▸(body_any _ {c with sig:=a1} _ _ _ _ _ _ _ _ _ _ _ _ _ _ _ _ W hy (HTT.out W hW)).mono fun e w' h=>pu_of (fun _ h=>bodyW_ne h) h))
 have HR:=hd_ (ai_ hR1 (ai_ hR2 hR3))
 clear hR1 hR2 hR3 hbw v0 hb0 hT hx w1
 go_enter Tryz.func8,Tryz.ntmps8
 go_wp2_with fail
 refine HHD.out.mono ?_
 rintro e wa ⟨rfl,hba⟩
 have HA:=hd_ hba
 obtain⟨⟨u0,u1,u2,u3,u4,u5⟩,⟨u6,u7,u8,u9,u10,u11,u12,u13,u14⟩,u15⟩:=box16 (HBK.out wa hba)
 have HC:=hd_ (HBD.out wa hba)
 clear hba HHD HBD hW0
 as_aux_lemma=>
  go_wp2_with fail
  clear u0 u1 u2 u3 u4 u5 u6 u7 u8 u9 u10 u11 u12 u13 u14 u15
  refine HC.out.mono ?_
  rintro e wb ⟨hbb,D1,n1,k1,er1,rfl,h1⟩
  have hb:=below_then HA.out hbb (lr_ _)
  obtain⟨⟨u0,u1,u2,u3,u4,u5⟩,⟨u6,u7,u8,u9,u10,u11,u12,u13,u14⟩,u15⟩:=box16 (HBK.out wb hb)
  have HC:=hd_ (HPT.out wb hb)
  have HA:=hd_ hb
  have H1:=hd_ h1
  clear hbb hb h1 HPT
  as_aux_lemma=>
   go_wp2_with fail
   clear u0 u1 u2 u3 u4 u5 u6 u7 u8 u9 u10 u11 u12 u13 u14 u15
   refine HC.out.mono ?_
   rintro e wc ⟨hbc,D2,n2,k2,er2,rfl,h2⟩
   have hb:=below_then HA.out hbc (lr_ _)
   obtain⟨Wd,hWd⟩:=nm_ (wc.alloc (.cells #[.int .i64 a0,.slice A1 l1' i1,.int .i64 a2,.int .i64 a3,.slice A4 l4 i4,.int .i64 a5,.bool q0,.bool q1,.int .i64 q2,.int .u16 q3,.slice B4 m4 j4,.slice B5 m5 j5,.slice B6 m6 j6,.slice B7 m7 j7,.slice B8 m8 j8,.int .i64 a7] 32))
   have hbd:Below wc.heap.size wc Wd:=by rw[←hWd];exact below_new _ _
   have vd:Wd.heap[wc.heap.size]? =some (.cells #[.int .i64 a0,.slice A1 l1' i1,.int .i64 a2,.int .i64 a3,.slice A4 l4 i4,.int .i64 a5,.bool q0,.bool q1,.int .i64 q2,.int .u16 q3,.slice B4 m4 j4,.slice B5 m5 j5,.slice B6 m6 j6,.slice B7 m7 j7,.slice B8 m8 j8,.int .i64 a7] 32):=by rw[←hWd];exact heap_new_ _ _
   obtain⟨W5,hW5⟩:=nm_ (setN Wd wc.heap.size 15 [.int .i64 a1])
   have v5:W5.heap[wc.heap.size]? =some (.cells #[.int .i64 a0,.slice A1 l1' i1,.int .i64 a2,.int .i64 a3,.slice A4 l4 i4,.int .i64 a5,.bool q0,.bool q1,.int .i64 q2,.int .u16 q3,.slice B4 m4 j4,.slice B5 m5 j5,.slice B6 m6 j6,.slice B7 m7 j7,.slice B8 m8 j8,.int .i64 a1] 32):=by
    rw[←hW5,setN_box _ _ _ _ vd]
    simp only[putN,List.setIfInBounds_toArray,List.set_cons_zero,List.set_cons_succ]
   have hb5:Below wc.heap.size wc W5:=by rw[←hW5];exact setN_below (lr_ _) _ _ _ hbd
   simp only[setN] at hW5
   have hbx:=below_then hb hb5 (lr_ _)
   obtain⟨⟨u0,u1,u2,u3,u4,u5⟩,⟨u6,u7,u8,u9,u10,u11,u12,u13,u14⟩,u15⟩:=box16 (HBK.out wc hb)
   obtain⟨⟨t0,t1,t2,t3,t4,t5⟩,⟨t6,t7,t8,t9,t10,t11,t12,t13,t14⟩,t15⟩:=box16 vd
   obtain⟨⟨f0,f1,f2,f3,f4,f5⟩,⟨f6,f7,f8,f9,f10,f11,f12,f13,f14⟩,f15⟩:=fz16 vd
   obtain⟨⟨r0,r1,r2,r3,r4,r5⟩,⟨r6,r7,r8,r9,r10,r11,r12,r13,r14⟩,r15⟩:=box16 v5
   have hy:CeC S W5 {c with sig:=a1} (.int .i64 a0) (.slice A1 l1' i1) (.int .i64 a2) (.int .i64 a3) (.slice A4 l4 i4) (.int .i64 a5) (.bool q0) (.bool q1) (.int .i64 q2) (.int .u16 q3) (.slice B4 m4 j4) (.slice B5 m5 j5) (.slice B6 m6 j6) (.slice B7 m7 j7) (.slice B8 m8 j8) (.int .i64 a1):=((HXX.out wc hb).below hb5).resig HI.out
   have HC:=hd_ (HBX.out W5 hbx hy)
   have HA:=hd_ hbx
   have H2:=hd_ (ai_ h2 (ai_ hbc hb5))
   clear hbc hb h2 hbd vd v5 hb5 hbx hy HBX HBK HTT HXX HI t0 t1 t2 t3 t4 t5 t6 t7 t8 t9 t10 t11 t12 t13 t14 f0 f1 f2 f3 f4 f5 f6 f7 f8 f9 f10 f11 f12 f13 f14
   as_aux_lemma=>
    go_wp2_with fail
    clear u0 u1 u2 u3 u4 u5 u6 u7 u8 u9 u10 u11 u12 u13 u14 u15 r0 r1 r2 r3 r4 r5 r6 r7 r8 r9 r10 r11 r12 r13 r14 r15 t15 f15
    refine HC.out.mono ?_
    rintro e we ⟨hbe,D3,n3,k3,er3,rfl,h3⟩
    have H3:=hd_ (ai_ h3 hbe)
    have HA:=hd_ (below_then HA.out hbe (lr_ _))
    clear hbe h3 HC
    as_aux_lemma=>
     rcases H1.out with ⟨_,hne⟩ | ⟨A,hA1,rfl,rfl,hA,hA2,hA3⟩
     ·have HE:=hd_ (HBW.out _ HA.out)
      go_wp2
      go_ret
      exact⟨rfl,HE.out⟩
     rcases H2.out.1 with ⟨_,hne⟩ | ⟨B,hB1,rfl,rfl,hB,hB2,hB3⟩
     ·have HE:=hd_ (HBW.out _ HA.out)
      clear hA hA2 hA3 hA1
      go_wp2
      go_ret
      exact⟨rfl,HE.out⟩
     rcases H3.out.1 with ⟨_,hne⟩ | ⟨X,hX1,rfl,rfl,hX,hX2,hX3⟩
     ·have HE:=hd_ (HBW.out _ HA.out)
      clear hA hA2 hA3 hA1 hB hB2 hB3 hB1
      go_wp2
      go_ret
      exact⟨rfl,HE.out⟩
     obtain⟨rfl,⟨hsa,hsb⟩,hpos,i0,hi0,hin⟩:=signed_plain (HR.out.1.trans hA1) (HR.out.2.1.trans hB1) (HR.out.2.2.trans hX1)
     have hce:=below_then H2.out.2.2 H3.out.2 (lr_ _)
     have hA:=hA.below (below_then H2.out.2.1 hce (lr_ _))
     have hB:=hB.below hce
     have hfa:=hA.fit
     have hfb:=hB.fit
     obtain⟨la,hla⟩:=nm_ X.length
     obtain⟨lb,hlb⟩:=nm_ B.length
     rw[hla] at hsa hA hA2 hpos hi0 hin hX hX2⊢
     rw[hlb] at hsb hB hB2 hi0⊢
     have HS:=hd_ (ai_ hA (ai_ hB (ai_ hX (ai_ hA2 (ai_ hB2 (ai_ hpos (ai_ hi0 (ai_ hin (ai_ hfa hfb)))))))))
     have HL:=hd_ (ai_ hsa hsb)
     have mixed:Tryz.prog.follows Departure.mixedOrders=true:=by kernel_rfl
     clear hA hB hX hA2 hB2 hi0 hin hfa hfb hce hA1 hB1 hX1 hX2 hX3 hla hlb H1 H2 H3 HR hB3 hA3 hpos hsa hsb
     go_wp2_with fail
     as_aux_lemma=>
      go_loopg [13,14] (lb+2) (fun gk s13 s14 wx=>∃(i:Nat) (th:Bool),s13=.bool th∧s14=.int .i64 (i:Nat)∧i≤lb+1∧lb+1 - i<gk∧(th=true∨i≤i0)∧Hid (Below we.heap.size we wx))
      case atStart=>exact⟨0,false,rfl,rfl,by omega,by omega,Or.inr (by omega),hd_ (Below.refl _ _)⟩
      case round=>
       obtain⟨i,th,rfl,rfl,hi,hgk,hor,HW⟩:=hrel
       have hs0:(0:Int)≤(i:Int)+ (la:Int):=by omega
       have hs1:(i:Int)+ (la:Int)≤9223372036854775807:=by have:=HL.out.1;have:=HL.out.2;omega
       by_cases hth:th=true
       ·subst hth
        have HE:=hd_ (HBW.out _ (below_then HA.out HW.out (lr_ _)))
        have y1:=intc.str_now (HS.out.2.2.1.below HW.out) k3
        have y2:=intc.str_now (HS.out.1.below HW.out) k1
        by_cases hle:(i:Int)+ (la:Int)≤(lb:Int)
        ·clear hgk hor hi
         go_wp2
         all_goals (go_ret;exact⟨rfl,HE.out⟩)
        ·clear hgk hor hi
         go_wp2
         all_goals (go_ret;exact⟨rfl,HE.out⟩)
       ·obtain rfl:th=false:=by simpa using hth
        have hii:i≤i0:=by simpa using hor
        have hle:(i:Int)+ (la:Int)≤(lb:Int):=by have:=HS.out.2.2.2.2.2.2.1;omega
        obtain⟨gk',rfl⟩: ∃g',gk=g'+1:=⟨gk - 1,by omega⟩
        obtain⟨b,off,e2,_,_⟩:=HS.out.2.1.2.2 (by have:=HS.out.2.2.2.2.2.2.1;have:=HS.out.2.2.2.2.2.1;omega)
        subst e2
        have hsub:=body_bys (F:=i) (T:=i+la) (HS.out.2.1.below HW.out) HS.out.2.2.2.2.1 (by omega) (by omega)
        have hcF: ¬k2=i:=by have:=HS.out.2.2.2.2.1;have:=HS.out.2.2.2.2.2.1;omega
        rw[if_neg hcF,Nat.add_sub_cancel_left] at hsub
        obtain⟨ys,hys⟩:=nm_ ((B.take (i+la)).drop i)
        rw[hys] at hsub
        have hfy:=hsub.fit
        have z1:=fun(d:Nat) (os:Array Obj)=>intc.str_now (hsub.below (below_regrown wr d os)) (k2 - i)
        have z2:=fun(d:Nat) (os:Array Obj)=>intc.str_now ((HS.out.1.below HW.out).below (below_regrown wr d os)) k1
        have hcF1: ¬k2 - i=0:=by have:=HS.out.2.2.2.2.1;have:=HS.out.2.2.2.2.2.1;have:=HS.out.2.2.2.2.2.2.1;omega
        have i1':(0:Int)≤(i:Int):=by omega
        have i2':(i:Int)≤(i:Int)+ (la:Int):=by omega
        have i3':(i:Int)+ (la:Int)≤(k2:Int):=by have:=HS.out.2.2.2.2.1;omega
        have HN:=hd_ (ai_ (show i+1≤lb+1 by have:=HS.out.2.2.2.2.2.1;omega) (show lb+1 - (i+1)<gk' by omega))
        have HY:=hd_ (ai_ hys hfy)
        have HI2:=hd_ hii
        have hib:(i:Int)+1≤9223372036854775807:=by have:=HL.out.2;omega
        clear hgk hor hi hsub hys hfy hii hth
        by_cases hyx:ys=X
        ·have hst:((strOfNums ys).toList==(strOfNums X).toList)=true:=(intc.sameB_iff HY.out.2 HS.out.2.2.2.2.2.2.2.2.1).2 hyx
         clear hyx
         go_wp2_with fail
         try dsimp only
         refine wp_region_quiet_below (by kernel_rfl) (by kernel_rfl) ?_
         repeat (go_big_quiet_step (fail))
         refine wpQuiet_nil ?_
         intro _ hw'
         obtain⟨⟨nq,osq⟩,hw2⟩:=hw'
         subst hw2
         have HF:=hd_ (below_then HW.out (below_regrown wr nq osq) (lr_ _))
         clear z1 z2
         go_wp2
         go_roundg gk'
         case measure=>omega
         case rel=>exact⟨i+1,true,rfl,by go_num,HN.out.1,HN.out.2,Or.inl rfl,HF⟩
        ·have hst:((strOfNums ys).toList==(strOfNums X).toList)=false:=intc.sameB_no HY.out.2 HS.out.2.2.2.2.2.2.2.2.1 hyx
         have hni:i+1≤i0:=by
          have h1:=HI2.out
          have h2:i≠i0:=fun e=>hyx (by rw[←HY.out.1,e];exact HS.out.2.2.2.2.2.2.2.1)
          omega
         have HJ:=hd_ hni
         clear hyx hni
         go_wp2_with fail
         try dsimp only
         refine wp_region_quiet_below (by kernel_rfl) (by kernel_rfl) ?_
         repeat (go_big_quiet_step (fail))
         refine wpQuiet_nil ?_
         intro _ hw'
         obtain⟨⟨nq,osq⟩,hw2⟩:=hw'
         subst hw2
         have HF:=hd_ (below_then HW.out (below_regrown wr nq osq) (lr_ _))
         clear z1 z2
         go_wp2
         go_roundg gk'
         case measure=>omega
         case rel=>exact⟨i+1,false,rfl,by go_num,HN.out.1,HN.out.2,Or.inr HJ.out,HF⟩
end Go.Proofs.YtjanfogifehhmaaGreatDoor.nmc
