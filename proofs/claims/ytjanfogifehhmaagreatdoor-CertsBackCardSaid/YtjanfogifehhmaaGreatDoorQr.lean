/- Certificates there and back: PART. -/
import Derived.Test.YtjanfogifehhmaaGreatDoorQj
set_option maxRecDepth 100000
set_option maxHeartbeats 32000000
set_option linter.unusedVariables false
set_option linter.unusedSimpArgs false
namespace Go.Proofs.YtjanfogifehhmaaGreatDoor.nmc
open Go.ChangeShapes Go.WideShapes Go.ChangeAt Go.RowKit
open Go.Proofs.YtjanfogifehhmaaGreatDoor Go.Proofs.YtjanfogifehhmaaGreatDoor.tlvc Go.Proofs.YtjanfogifehhmaaGreatDoor.tlvd Go.Proofs.YtjanfogifehhmaaGreatDoor.ndc Go.Proofs.YtjanfogifehhmaaGreatDoor.txc Go.Proofs.YtjanfogifehhmaaGreatDoor.intc Go.Proofs.YtjanfogifehhmaaGreatDoor.vtc Go.Proofs.YtjanfogifehhmaaGreatDoor.nmc
theorem back_os {S:Nat→Prop}{c:Ce}{a0:Int}{A1:Option Addr}{l1' i1:Nat}{a2 a3:Int}{A4:Option Addr}{l4 i4:Nat}{a5:Int}{q0 q1:Bool}{q2 q3:Int}{B4:Option Addr}{m4 j4:Nat}{B5:Option Addr}{m5 j5:Nat}{B6:Option Addr}{m6 j6:Nat}{B7:Option Addr}{m7 j7:Nat}{B8:Option Addr}{m8 j8:Nat}{a7:Int}(a1:Option Addr)(len1 cap1:Nat)(x1:List Int)(w:World)(hx:CeC S w c (.int .i64 a0) (.slice A1 l1' i1) (.int .i64 a2) (.int .i64 a3) (.slice A4 l4 i4) (.int .i64 a5) (.bool q0) (.bool q1) (.int .i64 q2) (.int .u16 q3) (.slice B4 m4 j4) (.slice B5 m5 j5) (.slice B6 m6 j6) (.slice B7 m7 j7) (.slice B8 m8 j8) (.int .i64 a7))(w1:tlvc.Bys w a1 len1 x1)(l1:len1≤cap1)(r1:cap1≤140737488351232)(hT:txc.Tabs w)(hM:putN11 c=1)(hN:getN11 x1=1):
 Calls Tryz.prog 5 #[.agg #[.int .i64 a0,.slice A1 l1' i1,.int .i64 a2,.int .i64 a3,.slice A4 l4 i4,.int .i64 a5,.bool q0,.bool q1,.int .i64 q2,.int .u16 q3,.slice B4 m4 j4,.slice B5 m5 j5,.slice B6 m6 j6,.slice B7 m7 j7,.slice B8 m8 j8,.int .i64 a7],.slice a1 len1 cap1] w fun e w'=>e=.returned (.bool true)∧Below w.heap.size w w':=by
 obtain⟨W0,hW0⟩:=nm_ (w.alloc (.cells #[.int .i64 a0,.slice A1 l1' i1,.int .i64 a2,.int .i64 a3,.slice A4 l4 i4,.int .i64 a5,.bool q0,.bool q1,.int .i64 q2,.int .u16 q3,.slice B4 m4 j4,.slice B5 m5 j5,.slice B6 m6 j6,.slice B7 m7 j7,.slice B8 m8 j8,.int .i64 a7] 32))
 have hb0:Below w.heap.size w W0:=by rw[←hW0];exact below_new _ _
 have v0:W0.heap[w.heap.size]? =some (.cells #[.int .i64 a0,.slice A1 l1' i1,.int .i64 a2,.int .i64 a3,.slice A4 l4 i4,.int .i64 a5,.bool q0,.bool q1,.int .i64 q2,.int .u16 q3,.slice B4 m4 j4,.slice B5 m5 j5,.slice B6 m6 j6,.slice B7 m7 j7,.slice B8 m8 j8,.int .i64 a7] 32):=by rw[←hW0];exact heap_new_ _ _
 have hbw:=fun W (hW:Below W0.heap.size W0 W)=>below_then hb0 hW (lr_ _)
 have HBW:=hd_ hbw
 have HBK:=hd_ (fun W (hW:Below W0.heap.size W0 W)=>(hW.block _ (Array.getElem?_eq_some_iff.1 v0).1).trans v0)
 have HTT:=hd_ (fun W hW=>hT.below (hbw W hW))
 have HXX:=hd_ (fun W (hW:Below W0.heap.size W0 W)=>hx.below (hbw W hW))
 have HHD:=hd_ (head11_any W0 (hT.below hb0))
 obtain⟨P,hP⟩:=nm_ (putC c)
 have hput:=fun W (hW:Below W0.heap.size W0 W)=>put_cert _ c _ _ _ _ _ _ _ _ _ _ _ _ _ _ _ _ W (HXX.out W hW) (HTT.out W hW)
 rw[hP] at hput
 have HPUT:=hd_ hput
 have HP:=hd_ (ai_ hP hx.ex.u16)
 obtain⟨G,hG⟩:=nm_ (getRes x1)
 have hget:=fun W (hW:Below W0.heap.size W0 W)=>getC_any a1 len1 cap1 x1 W (w1.below (hbw W hW)) l1 (by unfold maxLen;omega) (HTT.out W hW)
 rw[hG] at hget
 have HGET:=hd_ hget
 have HG:=hd_ hG
 have HB1:=hd_ w1
 clear hput hP hget hG hbw v0 hb0 hT hx w1
 go_enter Tryz.func5,Tryz.ntmps5
 go_wp2_with fail
 refine HHD.out.mono ?_
 rintro e wa ⟨rfl,hba⟩
 have HA:=hd_ hba
 obtain⟨⟨u0,u1,u2,u3,u4,u5⟩,⟨u6,u7,u8,u9,u10,u11,u12,u13,u14⟩,u15⟩:=box16 (HBK.out wa hba)
 have HC:=hd_ (HPUT.out wa hba)
 clear hba HHD HPUT hW0
 go_wp2_with fail
 clear u0 u1 u2 u3 u4 u5 u6 u7 u8 u9 u10 u11 u12 u13 u14 u15
 refine HC.out.mono ?_
 rintro e wb ⟨hbb,hpost⟩
 have hb:=below_then HA.out hbb (lr_ _)
 clear hbb HC HA
 cases P with
 |no er=>exact absurd (hM.symm.trans (show putN11 c=0 by unfold putN11;rw[HP.out.1])) (by decide)
 |ok bs=>
  obtain⟨D,dk,rfl,hby,⟨hd1,hd2⟩,_⟩:=hpost
  have hg1:=getC_any D bs.length dk bs wb hby hd1 hd2 (HTT.out _ hb)
  rw[getRes_back HP.out.2 HP.out.1] at hg1
  obtain⟨lb,hlb⟩:=nm_ bs.length
  rw[hlb] at hg1⊢
  have HC:=hd_ hg1
  have HA:=hd_ hb
  clear hby hd1 hd2 hg1 hb hlb
  go_wp2_with fail
  refine HC.out.mono ?_
  rintro e wc ⟨hbc,c0,c1,c2,c3,c4,c5,x0',x1',x2',x3,x4,x5,x6,x7,x8,c6,rfl,hy⟩
  obtain⟨b0,E1,e1,h1,b2,b3,E4,e4,h4,b5,p0,p1,p2,p3,F4,n4,k4,F5,n5,k5,F6,n6,k6,F7,n7,k7,F8,n8,k8,b7,rfl,rfl,rfl,rfl,rfl,rfl,rfl,rfl,rfl,rfl,rfl,rfl,rfl,rfl,rfl,rfl⟩:=ceC_shape hy
  obtain⟨Wd,hWd⟩:=nm_ (wc.alloc (.cells #[.int .i64 b0,.slice E1 e1 h1,.int .i64 b2,.int .i64 b3,.slice E4 e4 h4,.int .i64 b5,.bool p0,.bool p1,.int .i64 p2,.int .u16 p3,.slice F4 n4 k4,.slice F5 n5 k5,.slice F6 n6 k6,.slice F7 n7 k7,.slice F8 n8 k8,.int .i64 b7] 32))
  have hbd:Below wc.heap.size wc Wd:=by rw[←hWd];exact below_new _ _
  have vd:Wd.heap[wc.heap.size]? =some (.cells #[.int .i64 b0,.slice E1 e1 h1,.int .i64 b2,.int .i64 b3,.slice E4 e4 h4,.int .i64 b5,.bool p0,.bool p1,.int .i64 p2,.int .u16 p3,.slice F4 n4 k4,.slice F5 n5 k5,.slice F6 n6 k6,.slice F7 n7 k7,.slice F8 n8 k8,.int .i64 b7] 32):=by rw[←hWd];exact heap_new_ _ _
  have hb:=below_then (below_then HA.out hbc (lr_ _)) hbd (lr_ _)
  obtain⟨⟨u0,u1,u2,u3,u4,u5⟩,⟨u6,u7,u8,u9,u10,u11,u12,u13,u14⟩,u15⟩:=box16 (HBK.out Wd hb)
  obtain⟨⟨t0,t1,t2,t3,t4,t5⟩,⟨t6,t7,t8,t9,t10,t11,t12,t13,t14⟩,t15⟩:=box16 vd
  have HC2:=hd_ (rsameC_self _ _ c _ _ _ _ _ _ _ _ _ _ _ _ _ _ _ _ _ _ _ _ _ _ _ _ _ _ _ _ _ _ _ _ Wd (HXX.out _ hb) (hy.below hbd))
  have HA:=hd_ hb
  clear hbc hy hbd vd hb HC
  go_wp2_with fail
  clear u0 u1 u2 u3 u4 u5 u6 u7 u8 u9 u10 u11 u12 u13 u14 u15 t0 t1 t2 t3 t4 t5 t6 t7 t8 t9 t10 t11 t12 t13 t14 t15
  refine HC2.out.mono ?_
  rintro e we ⟨rfl,hbe⟩
  have hb:=below_then HA.out hbe (lr_ _)
  clear hbe HC2 HA
  have HC:=hd_ (HGET.out _ hb)
  have HA:=hd_ hb
  clear hb
  go_wp2_with fail
  refine HC.out.mono ?_
  rintro e wf ⟨hbf,hpost⟩
  have hb:=below_then HA.out hbf (lr_ _)
  clear hbf HC HA
  obtain⟨G1,G2⟩:=G
  match G1,hpost,HG with
  |none,hpost,HG=>
   exact absurd (hN.symm.trans (show getN11 x1=0 by unfold getN11;rw[HG.out])) (by decide)
  |some none,hpost,HG=>
   exact absurd (hN.symm.trans (show getN11 x1=0 by unfold getN11;rw[HG.out])) (by decide)
  |some (some d),hpost,HG=>
   obtain⟨c0,c1,c2,c3,c4,c5,x0',x1',x2',x3,x4,x5,x6,x7,x8,c6,rfl,hy⟩:=hpost
   obtain⟨b0,E1,e1,h1,b2,b3,E4,e4,h4,b5,p0,p1,p2,p3,F4,n4,k4,F5,n5,k5,F6,n6,k6,F7,n7,k7,F8,n8,k8,b7,rfl,rfl,rfl,rfl,rfl,rfl,rfl,rfl,rfl,rfl,rfl,rfl,rfl,rfl,rfl,rfl⟩:=ceC_shape hy
   obtain⟨Wg,hWg⟩:=nm_ (wf.alloc (.cells #[.int .i64 b0,.slice E1 e1 h1,.int .i64 b2,.int .i64 b3,.slice E4 e4 h4,.int .i64 b5,.bool p0,.bool p1,.int .i64 p2,.int .u16 p3,.slice F4 n4 k4,.slice F5 n5 k5,.slice F6 n6 k6,.slice F7 n7 k7,.slice F8 n8 k8,.int .i64 b7] 32))
   have hbg:Below wf.heap.size wf Wg:=by rw[←hWg];exact below_new _ _
   have vg:Wg.heap[wf.heap.size]? =some (.cells #[.int .i64 b0,.slice E1 e1 h1,.int .i64 b2,.int .i64 b3,.slice E4 e4 h4,.int .i64 b5,.bool p0,.bool p1,.int .i64 p2,.int .u16 p3,.slice F4 n4 k4,.slice F5 n5 k5,.slice F6 n6 k6,.slice F7 n7 k7,.slice F8 n8 k8,.int .i64 b7] 32):=by rw[←hWg];exact heap_new_ _ _
   have hb:=below_then hb hbg (lr_ _)
   obtain⟨⟨t0,t1,t2,t3,t4,t5⟩,⟨t6,t7,t8,t9,t10,t11,t12,t13,t14⟩,t15⟩:=box16 vg
   have hp:=put_cert _ d _ _ _ _ _ _ _ _ _ _ _ _ _ _ _ _ Wg (hy.below hbg) (HTT.out _ hb)
   rw[getRes_put HG.out] at hp
   have HC:=hd_ hp
   have HA:=hd_ hb
   clear hy hbg vg hb hp
   as_aux_lemma=>
     go_wp2_with fail
     clear t0 t1 t2 t3 t4 t5 t6 t7 t8 t9 t10 t11 t12 t13 t14 t15
     refine HC.out.mono ?_
     rintro e wh ⟨hbh,D2,dk2,rfl,hby2,⟨hd3,hd4⟩,_⟩
     have hb:=below_then HA.out hbh (lr_ _)
     have hxl:x1.length=len1:=HB1.out.1
     rw[hxl] at hby2 hd3⊢
     have k1:=intc.str_now hby2 dk2
     have k2:=intc.str_now (HB1.out.below (HBW.out _ hb)) cap1
     have HE:=hd_ (HBW.out _ hb)
     clear hb hbh hby2 hd3 hd4 hxl HC HA
     go_wp2
     go_ret
     exact⟨rfl,HE.out⟩
end Go.Proofs.YtjanfogifehhmaaGreatDoor.nmc
