/- A certificate's bytes, cut, or with more behind, are none. -/
import Derived.Test.YtjanfogifehhmaaGreatDoorQx
import Derived.Laws.EntriesVeiled
set_option maxRecDepth 100000
set_option maxHeartbeats 32000000
set_option linter.unusedVariables false
set_option linter.unusedSimpArgs false
namespace Go.Proofs.YtjanfogifehhmaaGreatDoor.nmc
open Go.ChangeShapes Go.WideShapes Go.ChangeAt Go.RowKit Go.Proofs.YtjanfogifehhmaaGreatDoor Go.Proofs.YtjanfogifehhmaaGreatDoor.tlvc Go.Proofs.YtjanfogifehhmaaGreatDoor.tlvd Go.Proofs.YtjanfogifehhmaaGreatDoor.ndc Go.Proofs.YtjanfogifehhmaaGreatDoor.txc Go.Proofs.YtjanfogifehhmaaGreatDoor.intc Go.Proofs.YtjanfogifehhmaaGreatDoor.vtc Go.Proofs.YtjanfogifehhmaaGreatDoor.intm Go.Proofs.YtjanfogifehhmaaGreatDoor.txm
theorem cuts_any {S:Nat→Prop}{c:Ce}{z0:Int}{A1:Option Addr}{l1' i1:Nat}{z2 z3:Int}{A4:Option Addr}{l4 i4:Nat}{z5:Int}{q0 q1:Bool}{q2 q3:Int}{B4:Option Addr}{m4 j4:Nat}{B5:Option Addr}{m5 j5:Nat}{B6:Option Addr}{m6 j6:Nat}{B7:Option Addr}{m7 j7:Nat}{B8:Option Addr}{m8 j8:Nat}{z7:Int}(a1:Int)(a2:Option Addr)(len2 cap2:Nat)(x2:List Int)(w:World)(hx:CeC S w c (.int .i64 z0) (.slice A1 l1' i1) (.int .i64 z2) (.int .i64 z3) (.slice A4 l4 i4) (.int .i64 z5) (.bool q0) (.bool q1) (.int .i64 q2) (.int .u16 q3) (.slice B4 m4 j4) (.slice B5 m5 j5) (.slice B6 m6 j6) (.slice B7 m7 j7) (.slice B8 m8 j8) (.int .i64 z7))(w1:(Lit.int .u32 a1).wf=true)(w2:tlvc.Bys w a2 len2 x2)(l2:len2≤cap2)(r2:cap2≤140737488351232)(hT:txc.Tabs w):
 Calls Tryz.prog 7 #[.agg #[.int .i64 z0,.slice A1 l1' i1,.int .i64 z2,.int .i64 z3,.slice A4 l4 i4,.int .i64 z5,.bool q0,.bool q1,.int .i64 q2,.int .u16 q3,.slice B4 m4 j4,.slice B5 m5 j5,.slice B6 m6 j6,.slice B7 m7 j7,.slice B8 m8 j8,.int .i64 z7],.int .u32 a1,.slice a2 len2 cap2] w fun e w'=>e=.returned (.bool true)∧Below w.heap.size w w':=by
 obtain⟨W0,hW0⟩:=nm_ (w.alloc (.cells #[.int .i64 z0,.slice A1 l1' i1,.int .i64 z2,.int .i64 z3,.slice A4 l4 i4,.int .i64 z5,.bool q0,.bool q1,.int .i64 q2,.int .u16 q3,.slice B4 m4 j4,.slice B5 m5 j5,.slice B6 m6 j6,.slice B7 m7 j7,.slice B8 m8 j8,.int .i64 z7] 32))
 have hb0:Below w.heap.size w W0:=by rw[←hW0];exact below_new _ _
 have v0:W0.heap[w.heap.size]? =some (.cells #[.int .i64 z0,.slice A1 l1' i1,.int .i64 z2,.int .i64 z3,.slice A4 l4 i4,.int .i64 z5,.bool q0,.bool q1,.int .i64 q2,.int .u16 q3,.slice B4 m4 j4,.slice B5 m5 j5,.slice B6 m6 j6,.slice B7 m7 j7,.slice B8 m8 j8,.int .i64 z7] 32):=by rw[←hW0];exact heap_new_ _ _
 have hbw:=fun W (hW:Below W0.heap.size W0 W)=>below_then hb0 hW (lr_ _)
 have HBW:=hd_ hbw
 have HBK:=hd_ (fun W (hW:Below W0.heap.size W0 W)=>(hW.block _ (Array.getElem?_eq_some_iff.1 v0).1).trans v0)
 have HTT:=hd_ (fun W hW=>hT.below (hbw W hW))
 have HXX:=hd_ (fun W (hW:Below W0.heap.size W0 W)=>hx.below (hbw W hW))
 have HHD:=hd_ (head11_any W0 (hT.below hb0))
 have HUS:=hd_ hx.ex.u16
 obtain⟨R2,hR2⟩:=nm_ (putC c)
 have HPT:=hd_ (fun W (hW:Below W0.heap.size W0 W)=>(show Calls Tryz.prog 10 #[.agg #[.int .i64 z0,.slice A1 l1' i1,.int .i64 z2,.int .i64 z3,.slice A4 l4 i4,.int .i64 z5,.bool q0,.bool q1,.int .i64 q2,.int .u16 q3,.slice B4 m4 j4,.slice B5 m5 j5,.slice B6 m6 j6,.slice B7 m7 j7,.slice B8 m8 j8,.int .i64 z7]] W (PU W R2) from hR2▸(put_cert _ c _ _ _ _ _ _ _ _ _ _ _ _ _ _ _ _ W (HXX.out W hW) (HTT.out W hW)).mono fun e w' h=>pu_of (fun _ h=>putC_ne h) h))
 have HR:=hd_ hR2
 have HM:=hd_ (fun W (hW:Below W0.heap.size W0 W)=>w2.below (hbw W hW))
 have HLM:=hd_ (ai_ l2 r2)
 have HI:=hd_ (show 0≤a1∧a1≤4294967295 from bounds_u32 w1)
 clear hR2 hbw v0 hb0 hT hx w1 w2 l2 r2
 go_enter Tryz.func7,Tryz.ntmps7
 go_wp2_with fail
 refine HHD.out.mono ?_
 rintro e wa ⟨rfl,hba⟩
 have HA:=hd_ hba
 obtain⟨⟨u0,u1,u2,u3,u4,u5⟩,⟨u6,u7,u8,u9,u10,u11,u12,u13,u14⟩,u15⟩:=box16 (HBK.out wa hba)
 have HC:=hd_ (HPT.out wa hba)
 clear hba HHD HPT hW0
 go_wp2_with fail
 clear u0 u1 u2 u3 u4 u5 u6 u7 u8 u9 u10 u11 u12 u13 u14 u15
 refine HC.out.mono ?_
 rintro e wb ⟨hbb,D2,n2,k2,er2,rfl,h2⟩
 have HA:=hd_ (below_then HA.out hbb (lr_ _))
 clear hbb HC
 rcases h2 with ⟨_,hne⟩ | ⟨B,hB1,rfl,rfl,hB,hB2,hB3⟩
 ·have HE:=hd_ (HBW.out _ HA.out)
  have hn2:(er2 !=0)=true:=by simpa using hne
  have hn3:(er2==0)=false:=by simpa using hne
  go_wp2
  go_ret
  exact⟨rfl,HE.out⟩
 have hput:=HR.out.trans hB1
 obtain⟨hpos,hsz⟩:=putC_size hput
 obtain⟨lb,hlb⟩:=nm_ B.length
 rw[hlb] at hpos hsz hB hB2⊢
 obtain⟨T,hTn,hrest⟩:=cut_nums HI.out hpos hsz
 have HG:=hd_ hrest
 clear hrest
 obtain⟨er,hcut,hne⟩:=cut_res hput (T:=T) (by rw[hlb];exact hTn)
 have h01:(0:Int)≤(T:Int):=by omega
 have h02:(T:Int)≤(k2:Int):=by omega
 have hget:=getC_any D2 T k2 (B.take T) wb (hB.upto (by omega)) (by omega) hB3 (HTT.out wb HA.out)
 rw[hcut] at hget
 have HC:=hd_ hget
 have HB:=hd_ (ai_ hB (ai_ hput (ai_ hlb (ai_ hsz (ai_ hpos hne)))))
 clear hget hB hput hlb hcut hB1 hB2 hB3 HR hne hTn hpos hsz
 obtain⟨g1,g2,g3,g4,g5,g6,g7,g8,g9⟩:=HG.out
 clear HG
 go_wp2_with fail
 clear g1 g2 g3 g4 g5 g6 g7 g8 g9 h01 h02
 refine HC.out.mono ?_
 rintro e wc ⟨hbc,he⟩
 have he:e=_:=he
 subst he
 have hbd:Below wb.heap.size wb (wc.alloc (.cells #[.int .i64 0,.slice none 0 0,.int .i64 0,.int .i64 0,.slice none 0 0,.int .i64 0,.bool false,.bool false,.int .i64 0,.int .u16 0,.slice none 0 0,.slice none 0 0,.slice none 0 0,.slice none 0 0,.slice none 0 0,.int .i64 0] 32)):=below_then hbc (below_new _ _) (lr_ _)
 have vd:(wc.alloc (.cells #[.int .i64 0,.slice none 0 0,.int .i64 0,.int .i64 0,.slice none 0 0,.int .i64 0,.bool false,.bool false,.int .i64 0,.int .u16 0,.slice none 0 0,.slice none 0 0,.slice none 0 0,.slice none 0 0,.slice none 0 0,.int .i64 0] 32)).heap[wc.heap.size]? =some (.cells #[.int .i64 0,.slice none 0 0,.int .i64 0,.int .i64 0,.slice none 0 0,.int .i64 0,.bool false,.bool false,.int .i64 0,.int .u16 0,.slice none 0 0,.slice none 0 0,.slice none 0 0,.slice none 0 0,.slice none 0 0,.int .i64 0] 32):=heap_new_ _ _
 have hbx:=below_then HA.out hbd (lr_ _)
 obtain⟨v1,w1,B3,k3,w2,hr1,hr2,hB4,hk1,hk2,hb2⟩:=join2 (wc.alloc (.cells #[.int .i64 0,.slice none 0 0,.int .i64 0,.int .i64 0,.slice none 0 0,.int .i64 0,.bool false,.bool false,.int .i64 0,.int .u16 0,.slice none 0 0,.slice none 0 0,.slice none 0 0,.slice none 0 0,.slice none 0 0,.int .i64 0] 32)) D2 a2 lb k2 len2 cap2 B x2 (HB.out.1.below hbd) (HM.out _ hbx) (by have:=HLM.out;have:=HB.out.2.2.2.1;omega)
 rw[show(wc.alloc (.cells #[.int .i64 0,.slice none 0 0,.int .i64 0,.int .i64 0,.slice none 0 0,.int .i64 0,.bool false,.bool false,.int .i64 0,.int .u16 0,.slice none 0 0,.slice none 0 0,.slice none 0 0,.slice none 0 0,.slice none 0 0,.int .i64 0] 32)).heap.size=wc.heap.size+1 by simp] at hr1
 have hb2x:=below_then hbx hb2 (lr_ _)
 have hvd:=fun W (hW:Below w2.heap.size w2 W)=>(hW.block _ (Nat.lt_of_lt_of_le (Array.getElem?_eq_some_iff.1 vd).1 hb2.size)).trans ((hb2.block _ (Array.getElem?_eq_some_iff.1 vd).1).trans vd)
 have HZ:=hd_ hvd
 have hm:=(HM.out _ hbx).1
 obtain⟨G,hG⟩:=nm_ (getRes (B++x2))
 have hget:=getC_any B3 (lb+len2) k3 (B++x2) w2 hB4 hk1 hk2 (HTT.out w2 hb2x)
 rw[hG] at hget
 have HC:=hd_ hget
 have HG:=hd_ hG
 have HD:=hd_ (ai_ hb2x hm)
 have HR1:=hd_ hr1
 have HR2:=hd_ hr2
 have hne:er≠0:=HB.out.2.2.2.2.2
 have hne1:(er !=0)=true:=by simpa using hne
 clear hr1 hr2 hget hG hB4 hk1 hk2 hb2 hb2x hm hbx hbd vd hvd hbc
 go_wp2_with (at_builtin;first |refine wpl_append rfl (.tmp 45) (.tmp 46) 34 rfl _ _ _ rfl rfl HR1.out ?_ |refine wpl_append rfl (.tmp 47) (.tmp 48) 34 rfl _ _ _ rfl rfl HR2.out ?_)
 clear HR1 HR2
 refine HC.out.mono ?_
 rintro e wf ⟨hbf,he⟩
 have vz:=HZ.out wf hbf
 clear HC HZ
 by_cases hm0:len2=0
 ·subst hm0
  have hx0:x2=[]:=List.eq_nil_of_length_eq_zero HD.out.2
  have hg:=HG.out
  rw[hx0,List.append_nil,getRes_back HUS.out HB.out.2.1] at hg
  subst hg
  obtain⟨y0,y1,y2,y3,y4,y5,xx0,xx1,xx2,xx3,xx4,xx5,xx6,xx7,xx8,y6,rfl,hy⟩:=he
  obtain⟨b0,E1,e1,h1,b2,b3,E4,e4,h4,b5,p0,p1,p2,p3,F4,n4,u4,F5,n5,u5,F6,n6,u6,F7,n7,u7,F8,n8,u8,b7,rfl,rfl,rfl,rfl,rfl,rfl,rfl,rfl,rfl,rfl,rfl,rfl,rfl,rfl,rfl,rfl⟩:=ceC_shape hy
  obtain⟨Wd,hWd⟩:=nm_ (wf.alloc (.cells #[.int .i64 b0,.slice E1 e1 h1,.int .i64 b2,.int .i64 b3,.slice E4 e4 h4,.int .i64 b5,.bool p0,.bool p1,.int .i64 p2,.int .u16 p3,.slice F4 n4 u4,.slice F5 n5 u5,.slice F6 n6 u6,.slice F7 n7 u7,.slice F8 n8 u8,.int .i64 b7] 32))
  have hbd:Below wf.heap.size wf Wd:=by rw[←hWd];exact below_new _ _
  have HE:=hd_ (HBW.out _ (below_then HD.out.1 (below_then hbf hbd (lr_ _)) (lr_ _)))
  have vz:=(hbd.block _ (Array.getElem?_eq_some_iff.1 vz).1).trans vz
  have t0:=(box16 vz).1.1
  have t5:=(box16 vz).1.2.2.2.2.2
  clear hy hbd vz hbf hx0 HG HD HBW
  go_wp2
  go_ret
  exact⟨rfl,HE.out⟩
 ·obtain⟨er3,hg,hne3⟩:=more_res HB.out.2.1 (more:=x2) (by rw[HD.out.2];omega)
  have hg:=HG.out.symm.trans hg
  subst hg
  have he:e=_:=he
  subst he
  have hbd:=below_new wf (.cells #[.int .i64 0,.slice none 0 0,.int .i64 0,.int .i64 0,.slice none 0 0,.int .i64 0,.bool false,.bool false,.int .i64 0,.int .u16 0,.slice none 0 0,.slice none 0 0,.slice none 0 0,.slice none 0 0,.slice none 0 0,.int .i64 0] 32)
  have HE:=hd_ (HBW.out _ (below_then HD.out.1 (below_then hbf hbd (lr_ _)) (lr_ _)))
  have vy:=(hbd.block _ (Array.getElem?_eq_some_iff.1 vz).1).trans vz
  have t0:=(box16 vz).1.1
  have t5:=(box16 vz).1.2.2.2.2.2
  have t0':=(box16 vy).1.1
  have t5':=(box16 vy).1.2.2.2.2.2
  have hn3:(er3==0)=false:=by simpa using hne3
  have hn4: ¬(len2:Int)=0:=by omega
  have hn5:((len2:Int)==0)=false:=by simpa using hn4
  clear hbd vz vy hbf HG HD HBW hm0
  go_wp2
  go_ret
  exact⟨rfl,HE.out⟩
end Go.Proofs.YtjanfogifehhmaaGreatDoor.nmc
