/- The law CrlsMore of warderlaw12 answers true for any list and any number, and leaves its arguments as they were; no condition but that the library's two tables are as its text lays them. -/
import Derived.Test.YtconbejjagcnkaaDoorCards
import Derived.Test.YtconbejjagcnkaaDoorTie
import Derived.WalkKit
import Derived.ProofKit
import Derived.OpenShut
import Derived.ChangeOld
import Derived.Below
import Derived.SizedLaws
import Derived.Test.YtconbejjagcnkaaDoorKb
import Derived.Test.YtconbejjagcnkaaDoorXc
import Derived.Test.YtconbejjagcnkaaDoorWl
namespace Go.Proofs.YtconbejjagcnkaaDoor.crlsMore
open Go.ChangeShapes Go.WideShapes Go.ChangeAt Go.RowKit
set_option linter.unusedVariables false

theorem own:ownKnob Tryd.prog.godebug=none:=by kernel_rfl
theorem laidOut:laidOutB Tryd.prog=true:=by kernel_rfl

open Go.Proofs.YtconbejjagcnkaaDoor Go.Proofs.YtconbejjagcnkaaDoor.intm Go.Proofs.YtconbejjagcnkaaDoor.tlvc Go.Proofs.YtconbejjagcnkaaDoor.tlvd Go.Proofs.YtconbejjagcnkaaDoor.ndc Go.Proofs.YtconbejjagcnkaaDoor.txc Go.Proofs.YtconbejjagcnkaaDoor.intc Go.Proofs.YtconbejjagcnkaaDoor.vtc Go.Proofs.YtconbejjagcnkaaDoor.nmc
theorem cells5 {l:List Value}(h:l.length=5): ∃a0 a1 a2 a3 a4,l=[a0,a1,a2,a3,a4]:=by
  match l,h with
  | [a0,a1,a2,a3,a4],_=>exact⟨a0,a1,a2,a3,a4,rfl⟩

set_option maxRecDepth 100000 in
set_option maxHeartbeats 32000000 in
theorem walk (x0:List dtc.Dt)(c0_0 c0_1 c0_2 c0_3 c0_4:Value)(a1:Int)(w:World)(s0:dtc.IsShs [.row (.agg [.row (.int .i64),.str]),.int .i64,.int .i64,.row (.int .i64),.int .i64] x0)(w0:dtc.LiesAll (fun _=>True) w x0 [c0_0,c0_1,c0_2,c0_3,c0_4])(y0:dtc.fitDts x0)(w1:(Lit.int .u16 a1).wf=true)(hT:txc.Tabs w):
    Calls Tryd.prog 5 #[.agg #[c0_0,c0_1,c0_2,c0_3,c0_4],.int .u16 a1] w fun e w'=>e=.returned (.bool true)∧Below w.heap.size w w':=by
 obtain⟨c,hx⟩:=cr_of s0 w0 y0
 obtain⟨A0,m0,k0,b1,b2,A3,m3,k3,b4,rfl,rfl,rfl,rfl,rfl⟩:=hx.shape
 obtain⟨W0,hW0⟩:=nm_ (w.alloc (.cells #[.slice A0 m0 k0,.int .i64 b1,.int .i64 b2,.slice A3 m3 k3,.int .i64 b4] 26))
 have hb0:Below w.heap.size w W0:=by rw[←hW0];exact below_new _ _
 have v0:W0.heap[w.heap.size]? =some (.cells #[.slice A0 m0 k0,.int .i64 b1,.int .i64 b2,.slice A3 m3 k3,.int .i64 b4] 26):=by rw[←hW0];exact heap_new_ _ _
 have hbw:=fun W (hW:Below W0.heap.size W0 W)=>below_then hb0 hW (lr_ _)
 have HBW:=hd_ hbw
 have HBK:=hd_ (fun W (hW:Below W0.heap.size W0 W)=>(hW.block _ (Array.getElem?_eq_some_iff.1 v0).1).trans v0)
 have HTT:=hd_ (fun W hW=>hT.below (hbw W hW))
 have HXX:=hd_ (fun W (hW:Below W0.heap.size W0 W)=>hx.below (hbw W hW))
 have HHD:=hd_ (head12_any W0 (hT.below hb0))
 have hm:=bounds_u16 w1
 have hxs:=fun W (hW:Below W0.heap.size W0 W)=>inC_ins (hx.below (hbw W hW)).sers
 have HII:=hd_ hxs
 have hk9:k3≤9223372036854775807:=by have:=(hxs W0 (br_ _ _)).2.1;unfold maxLen at this;omega
 have hmk:m3≤k3:=(hxs W0 (br_ _ _)).1
 have HLN:=hd_ (hxs W0 (br_ _ _)).2.2.1.len
 obtain⟨P,hP⟩:=nm_ (putL c)
 have hput:=fun W (hW:Below W0.heap.size W0 W)=>putL_any _ c _ _ _ _ _ W (HXX.out W hW) (HTT.out W hW)
 rw[hP] at hput
 have HPUT:=hd_ hput
 have HP:=hd_ hP
 have HM:=hd_ hm
 have HZ:=hd_ (show W0.heap.size=w.heap.size+1 by rw[←hW0];simp)
 clear hput hP hbw v0 hb0 hT hx hxs w1 hm
 go_enter Tryd.func5,Tryd.ntmps5
 go_wp2_with fail
 refine HHD.out.mono ?_
 rintro e wa ⟨rfl,hba⟩
 have HA:=hd_ hba
 obtain⟨u0,u1,u2,u3,u4⟩:=box5 (HBK.out wa hba)
 have HC:=hd_ (HPUT.out wa hba)
 clear hba HHD HPUT hW0
 go_wp2_with fail
 clear u0 u1 u2 u3 u4
 refine HC.out.mono ?_
 rintro e wb ⟨hbb,hpost⟩
 have hb:=below_then HA.out hbb (lr_ _)
 have HE:=hd_ (HBW.out _ hb)
 obtain⟨u0,u1,u2,u3,u4⟩:=box5 (HBK.out wb hb)
 have HB:=hd_ hb
 clear hbb HC HA hb
 cases P with
 |no er=>
  have hne:=putL_ne HP.out
  obtain rfl:=hpost
  go_wp2
  go_ret
  exact⟨rfl,HE.out⟩
 |ok bs=>
  have hr:=putL_right HP.out
  obtain⟨D,dk,rfl,_,_,_⟩:=hpost
  obtain⟨lb,hlb⟩:=nm_ bs.length
  rw[hlb]
  clear hlb
  by_cases h256:256≤m3
  ·have hz:(256:Int)≤(m3:Int):=by omega
   clear h256 hr
   go_wp2
   go_ret
   exact⟨rfl,HE.out⟩
  ·have hz: ¬(256:Int)≤(m3:Int):=by omega
   obtain⟨last,hlast⟩:=nm_ (lastI c.sers)
   have hsb:c.sers.all serB=true:=by
    have h:=(rightL_parts hr).2.2.2.1
    unfold sersB at h
    simp only[Bool.and_eq_true] at h
    exact h.2.1
   have hlb:=lastI_bd hsb
   rw[hlast] at hlb
   have hpos:0<m3→c.sers.getD (m3 - 1) 0=last:=fun h=>by rw[←hlast,←HLN.out];exact lastI_pos (by rw[HLN.out];exact h)
   have hnil:m3=0→last= -1:=fun h=>by
    have:c.sers=[]:=List.eq_nil_of_length_eq_zero (by rw[HLN.out];exact h)
    rw[←hlast,this];rfl
   have HQ:=hd_ (ai_ hr (ai_ hlast (ai_ (show m3<256 by omega) hlb)))
   have HPN:=hd_ (ai_ hpos hnil)
   clear hr hlast hsb hlb hpos hnil h256
   go_upto_if 32 with fail
   go_cut [8] (fun s8 wx=>s8=.int .i64 last∧wx=wb)
   case first=>
    by_cases h0:0<m3
    ·have hz0:(0:Int)< (m3:Int):=by omega
     obtain⟨gb,off,rfl,hgb,hcell⟩:=(HII.out _ HB.out).2.2.1.2.2 h0
     have e0:=hcell (m3 - 1) (by omega)
     rw[HPN.out.1 h0] at e0
     obtain⟨p,hp⟩:=nm_ (m3 - 1)
     rw[hp] at e0
     have heq:((m3:Nat):Int) - 1=((p:Nat):Int):=by omega
     have hp0:(0:Int)≤(p:Int):=by omega
     have hp1:(p:Int)< (m3:Int):=by omega
     have hp2:p<m3:=by omega
     clear hcell hgb h0 hp
     go_wp2_with fail
     go_meet
     exact⟨rfl,rfl⟩
    ·obtain rfl:m3=0:=by omega
     have hl:=HPN.out.2 rfl
     subst hl
     clear h0
     go_wp2_with fail
     go_meet
     exact⟨rfl,rfl⟩
   case rest=>
    obtain⟨rfl,rfl⟩:=hcut
    clear HPN
    by_cases hbig:4611686018427287904<last
    ·go_wp2
     go_ret
     exact⟨rfl,HE.out⟩
    ·have hl0:=HQ.out.2.2.2.1
     have ha0:=HM.out
     obtain⟨v,hv⟩:=nm_ (last+1+a1)
     have hmo:=more_ok (v:=v) HQ.out.1 (by rw[HLN.out];exact HQ.out.2.2.1) (by rw[HQ.out.2.1];omega) (by omega)
     obtain⟨⟨b1',hok⟩,hno⟩:=hmo
     have hv64:I64 v:=by unfold I64;omega
     have hw1:IntKind.i64.wrap (last+1)=last+1:=by simp[IntKind.wrap,IntKind.signed,IntKind.bits];omega
     have hw2:IntKind.i64.wrap v=v:=by simp[IntKind.wrap,IntKind.signed,IntKind.bits];omega
     have hw3:IntKind.i64.wrap a1=a1:=by simp[IntKind.wrap,IntKind.signed,IntKind.bits];omega
     obtain⟨W1,hW1⟩:=nm_ (wc.alloc (.cells #[.slice A0 m0 k0,.int .i64 b1,.int .i64 b2,.slice A3 m3 k3,.int .i64 b4] 26))
     have hbn:Below wc.heap.size wc W1:=by rw[←hW1];exact below_new _ _
     have p1:W1.heap[wc.heap.size]? =some (.cells #[.slice A0 m0 k0,.int .i64 b1,.int .i64 b2,.slice A3 m3 k3,.int .i64 b4] 26):=by rw[←hW1];exact heap_new_ _ _
     have hz1:W1.heap.size=wc.heap.size+1:=by rw[←hW1];simp
     have hgw:W0.heap.size≤wc.heap.size:=HB.out.size
     obtain⟨gd,hgd⟩:=nm_ wc.heap.size
     rw[hgd] at p1 hz1 hgw
     have hb1:=below_then HB.out hbn (lr_ _)
     have hi1:=(HII.out _ hb1).2.2.1
     obtain⟨x1,w1',g2,c2,w2,r1,r2,hq1,hq2,hq3⟩:=app_copy W1 A3 m3 k3 c.sers v hi1 hv64 (by have:=HQ.out.2.2.1;omega)
     obtain⟨WE,hWE⟩:=nm_ (W1.alloc (.cells #[] 2))
     rw[hWE] at r1
     have hbE:Below W1.heap.size W1 WE:=by rw[←hWE];exact below_new _ _
     obtain⟨gE,hgE⟩:=nm_ W1.heap.size
     rw[hgE] at r1
     have u3:=(box5 (HBK.out _ (below_then hb1 hbE (lr_ _)))).2.2.2.1
     obtain⟨WV,hWV⟩:=nm_ (w1'.alloc (.cells #[.int .i64 v] 2))
     rw[hWV] at r2
     have p2:=(hq2.block gd (by omega)).trans p1
     obtain⟨f0,f1,f2,f3,f4⟩:=fz5 p2
     obtain⟨s0,s1,s2,s3,s4⟩:=box5 p2
     obtain⟨W3,hW3⟩:=nm_ (w2.setCell ⟨gd,3,none⟩ (.slice (some ⟨g2,0,none⟩) (m3+1) c2))
     have p3:W3.heap[gd]? =some (.cells #[.slice A0 m0 k0,.int .i64 b1,.int .i64 b2,.slice (some ⟨g2,0,none⟩) (m3+1) c2,.int .i64 b4] 26):=by rw[←hW3];exact set_heap _ _ 3 _ _ _ _ p2
     have hb3:Below W0.heap.size W0 W3:=by rw[←hW3];exact(below_then hb1 hq2 (lr_ _)).setCell (p:=⟨gd,3,none⟩) hgw _
     have hc3:InC (fun g=>W1.heap.size≤g) W3 (c.sers++[v]) (.slice (some ⟨g2,0,none⟩) (m3+1) c2):=by rw[←hW3];exact hq3.on (by rw[set_size];exact lr_ _) (fun g (hg:W1.heap.size≤g) _=>set_heap_other _ _ _ _ _ (by omega)) (fun g hg _=>hg)
     obtain⟨t0,t1,t2,t3,t4⟩:=box5 p3
     have hx3:=HXX.out _ hb3
     have hx1:CrC (fun _=>True) W3 ⟨c.iss,c.ths,c.nxt,c.sers++[v],c.sig⟩ (.slice A0 m0 k0) (.int .i64 b1) (.int .i64 b2) (.slice (some ⟨g2,0,none⟩) (m3+1) c2) (.int .i64 b4):=⟨hx3.iss,hx3.ths,hx3.nxt,hc3.on (lr_ _) (fun _ _ _=>rfl) (fun _ _ _=>trivial),hx3.sig⟩
     have hp1:=putL_any _ _ _ _ _ _ _ W3 hx1 (HTT.out _ hb3)
     rw[hok] at hp1
     have HC:=hd_ hp1
     have HW:=hd_ (ai_ hb3 (ai_ p3 (ai_ hc3 (ai_ hno (ai_ hv64 (ai_ hz1 hgw))))))
     clear hbn p1 hz1 hgw hb1 hi1 hq1 hq2 hq3 hbE p2 p3 hb3 hc3 hx3 hx1 hp1 hok hno hv64
     go_wp2_with (at_builtin;first | (refine wpl_append rfl (.tmp 45) (.tmp 47) 24 rfl _ _ _ rfl rfl r1 ?_) | (refine wpl_append rfl (.tmp 48) (.tmp 54) 24 rfl _ _ _ rfl rfl r2 ?_))
     clear r1 r2 u3 f0 f1 f2 f3 f4 s0 s1 s2 s3 s4
     refine HC.out.mono ?_
     rintro e w4 ⟨hb4,A4,k4,rfl,_,_,_⟩
     obtain⟨lb4,hlb4⟩:=nm_ b1'.length
     rw[hlb4]
     have hb4w:=below_then HW.out.1 hb4 (lr_ _)
     have hz1:=HW.out.2.2.2.2.2.1
     have hgw:=HW.out.2.2.2.2.2.2
     have hgl:gd<w4.heap.size:=Nat.lt_of_lt_of_le (Array.getElem?_eq_some_iff.1 HW.out.2.1).1 hb4.size
     have p4:=(hb4.block gd (Array.getElem?_eq_some_iff.1 HW.out.2.1).1).trans HW.out.2.1
     obtain⟨j1,j2,j3,_⟩:=inC_ins (HW.out.2.2.1.below hb4)
     obtain⟨x2,w5',g5,c5,w5,r1,r2,hq1,hq2,hq3⟩:=app_copy w4 (some ⟨g2,0,none⟩) (m3+1) c2 (c.sers++[v]) v j3 HW.out.2.2.2.2.1 (by have:=HQ.out.2.2.1;omega)
     obtain⟨WE2,hWE2⟩:=nm_ (w4.alloc (.cells #[] 2))
     rw[hWE2] at r1
     have hbE:Below w4.heap.size w4 WE2:=by rw[←hWE2];exact below_new _ _
     obtain⟨gE2,hgE2⟩:=nm_ w4.heap.size
     rw[hgE2] at r1
     have u3:=(box5 ((hbE.block gd hgl).trans p4)).2.2.2.1
     obtain⟨WV2,hWV2⟩:=nm_ (w5'.alloc (.cells #[.int .i64 v] 2))
     rw[hWV2] at r2
     have p5:=(hq2.block gd hgl).trans p4
     obtain⟨f0,f1,f2,f3,f4⟩:=fz5 p5
     obtain⟨s0,s1,s2,s3,s4⟩:=box5 p5
     obtain⟨W6,hW6⟩:=nm_ (w5.setCell ⟨gd,3,none⟩ (.slice (some ⟨g5,0,none⟩) (m3+1+1) c5))
     have p6:W6.heap[gd]? =some (.cells #[.slice A0 m0 k0,.int .i64 b1,.int .i64 b2,.slice (some ⟨g5,0,none⟩) (m3+1+1) c5,.int .i64 b4] 26):=by rw[←hW6];exact set_heap _ _ 3 _ _ _ _ p5
     have hb6:Below W0.heap.size W0 W6:=by rw[←hW6];exact(below_then hb4w hq2 (lr_ _)).setCell (p:=⟨gd,3,none⟩) hgw _
     have hc6:InC (fun g=>w4.heap.size≤g) W6 (c.sers++[v]++[v]) (.slice (some ⟨g5,0,none⟩) (m3+1+1) c5):=by rw[←hW6];exact hq3.on (by rw[set_size];exact lr_ _) (fun g (hg:w4.heap.size≤g) _=>set_heap_other _ _ _ _ _ (by omega)) (fun g hg _=>hg)
     obtain⟨t0,t1,t2,t3,t4⟩:=box5 p6
     have hx6:=HXX.out _ hb6
     have hx2:CrC (fun _=>True) W6 ⟨c.iss,c.ths,c.nxt,c.sers++[v]++[v],c.sig⟩ (.slice A0 m0 k0) (.int .i64 b1) (.int .i64 b2) (.slice (some ⟨g5,0,none⟩) (m3+1+1) c5) (.int .i64 b4):=⟨hx6.iss,hx6.ths,hx6.nxt,hc6.on (lr_ _) (fun _ _ _=>rfl) (fun _ _ _=>trivial),hx6.sig⟩
     have hp2:=putL_any _ _ _ _ _ _ _ W6 hx2 (HTT.out _ hb6)
     rw[HW.out.2.2.2.1] at hp2
     have HC2:=hd_ hp2
     have HW2:=hd_ hb6
     clear hb4 hb4w hz1 hgw hgl p4 j1 j2 j3 hq1 hq2 hq3 hbE p5 p6 hb6 hc6 hx6 hx2 hp2 hlb4 HC HW hWE hgE hWV hW3 hW1 hgd
     go_wp2_with (at_builtin;first | (refine wpl_append rfl (.tmp 62) (.tmp 64) 24 rfl _ _ _ rfl rfl r1 ?_) | (refine wpl_append rfl (.tmp 65) (.tmp 71) 24 rfl _ _ _ rfl rfl r2 ?_))
     clear r1 r2 u3 f0 f1 f2 f3 f4 s0 s1 s2 s3 s4
     refine HC2.out.mono ?_
     rintro e w7 ⟨hb7,rfl⟩
     have HE:=hd_ (HBW.out _ (below_then HW2.out hb7 (lr_ _)))
     clear hb7 HC2 HW2
     go_wp2
     go_ret
     exact⟨rfl,HE.out⟩

theorem reads (os:Os){H:Type}(enc:TypeId × Value→H): ∃places,DataW.whole enc Tryd.prog ((txc.laidWorld os).forCall (fun _ _=>0) ⟨#[],#[.agg #[.slice none 0 0,.int .i64 0,.int .i64 0,.slice none 0 0,.int .i64 0],.int .u16 0],[]⟩).memory Tryd.f5.params.toList Rows.crlsMoreSpec.vars false (#[.agg #[.slice none 0 0,.int .i64 0,.int .i64 0,.slice none 0 0,.int .i64 0],.int .u16 0]:Array Value).toList 8=some ([.agg [.nil,.lit (.int .i64 0),.lit (.int .i64 0),.nil,.lit (.int .i64 0)],.lit (.int .u16 0)],[],places):=
  ⟨[],by kernel_rfl⟩
set_option maxRecDepth 100000 in
theorem lifted (os:Os)(started:os.Started)(H:Type)(enc:TypeId × Value→H)(F:Stop.Interp):
    ReturnsInHanded {} Tryd.checked os 5 .any ((OpenSpec.ofChange Rows.crlsMoreSpec).preRow enc Tryd.prog Tryd.f5 Rows.crlsMoreRow.domain false Rows.crlsMoreRow.laid) (((OpenSpec.ofChange Rows.crlsMoreSpec).at F).post enc Tryd.prog Tryd.f5 false true false false):=by
  obtain⟨places,hx⟩:=reads os enc
  refine returnsInHanded_of_row (C:=Tryd.checked) (s:=(OpenSpec.ofChange Rows.crlsMoreSpec)) own started (by kernel_rfl) Tryd.func5
    (witness_row_at (enc:=enc) (C:=Tryd.checked) false (txc.laidWorld os) #[.agg #[.slice none 0 0,.int .i64 0,.int .i64 0,.slice none 0 0,.int .i64 0],.int .u16 0] rfl (by kernel_rfl) (by kernel_rfl) (by kernel_rfl)
      (OpenSpec.preRow_of_cond 8 hx (by kernel_rfl) (fun k hk=>by cases hk) (by kernel_rfl) (txc.laid_met os _))) ?_
  intro W base args ds gs before hval0 hW hcnd hcond hsz0 hL _ _
  have hval: ∀(j:Nat) t v,Tryd.f5.params[j]? =some t→args[j]? =some v→Value.okWide Tryd.prog W .any base t v:=hval0
  have hW':=hW
  obtain⟨p,q,hA0,hV,rfl,hfz,hnd⟩:=hW
  have hA:DataW.TrodAll enc Tryd.prog W 0 (fun _=>true) true Tryd.f5.params.toList args.toList ds p:=hA0
  have hsz:(DataW.weightsEach Tryd.prog (Tryd.f5.params.toList++(OpenSpec.ofChange Rows.crlsMoreSpec).bare.plain.varTypes Tryd.prog) (ds++gs)).all (· ≤reachBytes)=true:=hsz0
  rw[Tryd.params5] at hA hval hsz
  obtain⟨v0,vs0,d0,ds0,p0,q0,hargs,rfl,rfl,h0,r_0⟩:=trodAll_cons hA
  obtain⟨v1,vs1,d1,ds1,p1,q1,rfl,rfl,rfl,h1,r_1⟩:=trodAll_cons r_0
  obtain⟨rfl,rfl,rfl⟩:=trodAll_nil r_1
  obtain rfl:args=#[v0,v1]:=by cases args;simp_all
  obtain⟨rfl,rfl⟩:=trodVars_none hV
  have k0:=h0
  have lt0: ∀x∈p0,x.block<W.heap.size:=by obtain⟨m,hm⟩:=k0;exact DataW.trod_lt m _ _ _ hm
  obtain⟨cl0,x0,rfl,cn0,s0,w0,z0⟩:=dtc.open_agg (l:=[.row (.agg [.row (.int .i64),.str]),.int .i64,.int .i64,.row (.int .i64),.int .i64]) Tryd.underlying26 (dtc.fit_agg Tryd.underlying26 (by kernel_rfl) (dtc.fits_cons (by kernel_rfl) (dtc.fit_row Tryd.underlying23 (dtc.fit_agg Tryd.underlying73 (by kernel_rfl) (dtc.fits_cons (by kernel_rfl) (dtc.fit_row Tryd.underlying71 (dtc.fit_int Tryd.underlying3 (by kernel_rfl)) (by kernel_rfl) (by kernel_rfl)) (dtc.fits_cons (by kernel_rfl) (dtc.fit_str Tryd.underlying9 (by kernel_rfl)) dtc.fits_nil))) (by kernel_rfl) (by kernel_rfl)) (dtc.fits_cons (by kernel_rfl) (dtc.fit_int Tryd.underlying2 (by kernel_rfl)) (dtc.fits_cons (by kernel_rfl) (dtc.fit_int Tryd.underlying2 (by kernel_rfl)) (dtc.fits_cons (by kernel_rfl) (dtc.fit_row Tryd.underlying24 (dtc.fit_int Tryd.underlying2 (by kernel_rfl)) (by kernel_rfl) (by kernel_rfl)) (dtc.fits_cons (by kernel_rfl) (dtc.fit_int Tryd.underlying3 (by kernel_rfl)) dtc.fits_nil)))))) (hval 0 26 v0 rfl rfl) h0
  have y0:=z0 (dtc.each_fit hsz (j:=0) rfl rfl)
  have cn0:cl0.length=5:=by simpa[dtc.szs,dtc.Sh.sz] using cn0
  obtain⟨c0_0,c0_1,c0_2,c0_3,c0_4,ecl0⟩:=cells5 cn0
  subst ecl0
  obtain⟨a1,rfl,rfl,rfl,w1⟩:=open_int Tryd.underlying37 (hval 1 37 v1 rfl rfl) h1
  clear hA0 hval0
  have hT:txc.Tabs W:=txc.tabs_of hL
  refine(walk x0 c0_0 c0_1 c0_2 c0_3 c0_4 a1 W s0 w0 y0 w1 hT).mono fun e W' ⟨he,bel⟩=>?_
  subst he
  exact⟨_,rfl,_,_,_,[],_,[],hW',trodAll_mk1 (shut_bool Tryd.underlying4 _),(trodAll_cons_mk (Below.trod laidOut (by kernel_rfl) (of_decide_eq_true (by kernel_rfl)) k0 bel lt0) (trodAll_cons_mk (shut_int Tryd.underlying37 w1) trodAll_mk0)),rfl,bel.frame _,fun h=>by cases h⟩

theorem over:Rows.crlsMoreRow.holds Tryd.pinned (OpenSpec.ofChange Rows.crlsMoreSpec):=
  OpenClaim.holds_of_cond 5 Tryd.f5 rfl rfl rfl rfl rfl rfl rfl ⟨rfl,rfl,rfl,rfl,rfl⟩ rfl rfl rfl rfl rfl (by kernel_rfl) Tryd.func5 (by kernel_rfl)
    (of_decide_eq_true (by kernel_rfl)) (by unfold Func.isWrapper;first | (rw[if_pos (by decide+kernel)];kernel_rfl) | (rw[if_neg (by decide+kernel)];exact⟨rfl,rfl⟩))
    (fun os started H enc _ F=>by rw[OpenClaim.pre_eq_preRow];exact lifted os started H enc F)

theorem plain (f:FuncId)(fn:Func)(hf:Tryd.pinned.checked.prog.funcNamed "warder/warderlaw12.CrlsMore" =some f)(hfn:Tryd.pinned.checked.prog.funcs[f]? =some fn):
    true=Tryd.pinned.checked.prog.looks []∧∀(j:Nat) t,fn.params[j]? =some t→Tryd.pinned.checked.prog.wantsStandIn t=false:=by
  obtain rfl:f=5:=Option.some.inj ((show Tryd.prog.funcNamed "warder/warderlaw12.CrlsMore" =some 5 by kernel_rfl).symm.trans hf) |>.symm
  obtain rfl:fn=Tryd.f5:=(Option.some.inj (Tryd.func5.symm.trans hfn)).symm
  refine⟨by kernel_rfl,fun j t ht=>?_⟩
  rw[Tryd.params5] at ht
  match j,ht with
    |0,ht=>obtain rfl:t=26:=(Option.some.inj ht).symm;exact(show Tryd.prog.wantsStandIn 26=false by kernel_rfl)
    |1,ht=>obtain rfl:t=37:=(Option.some.inj ht).symm;exact(show Tryd.prog.wantsStandIn 37=false by kernel_rfl)
    |j+2,ht=>simp at ht

theorem proved:Rows.CrlsMoreCardSaid:=
  Claim7.holds_tied_plain_at .later [] _ _ _ _ over (fun _ h=>by cases h) (by kernel_rfl) (fun _ h=>by cases h) crlsMore_row_tie rfl ⟨rfl,rfl⟩ (by kernel_rfl) rfl plain (by kernel_rfl)
#print axioms proved
end Go.Proofs.YtconbejjagcnkaaDoor.crlsMore
