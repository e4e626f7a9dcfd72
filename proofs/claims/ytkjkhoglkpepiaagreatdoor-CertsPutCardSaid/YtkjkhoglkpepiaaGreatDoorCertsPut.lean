/- The law CertsPut of warderlaw11 answers true for any certificate, and leaves it as it was; no condition but that the library's two tables are as its text lays them. -/
import Derived.Test.YtkjkhoglkpepiaaGreatDoorCards
import Derived.Test.YtkjkhoglkpepiaaGreatDoorTie
import Derived.WalkKit
import Derived.ProofKit
import Derived.OpenShut
import Derived.ChangeOld
import Derived.Below
import Derived.SizedLaws
import Derived.Test.YtkjkhoglkpepiaaGreatDoorKb
import Derived.Test.YtkjkhoglkpepiaaGreatDoorXc
import Derived.Test.YtkjkhoglkpepiaaGreatDoorMj
import Derived.Test.YtkjkhoglkpepiaaGreatDoorMc
namespace Go.Proofs.YtkjkhoglkpepiaaGreatDoor.certsPut
open Go.ChangeShapes Go.WideShapes Go.ChangeAt Go.RowKit
set_option linter.unusedVariables false

theorem own:ownKnob Tryz.prog.godebug=none:=by kernel_rfl
theorem laidOut:laidOutB Tryz.prog=true:=by kernel_rfl

open Go.Proofs.YtkjkhoglkpepiaaGreatDoor Go.Proofs.YtkjkhoglkpepiaaGreatDoor.tlvc Go.Proofs.YtkjkhoglkpepiaaGreatDoor.tlvd Go.Proofs.YtkjkhoglkpepiaaGreatDoor.ndc Go.Proofs.YtkjkhoglkpepiaaGreatDoor.txc Go.Proofs.YtkjkhoglkpepiaaGreatDoor.intc Go.Proofs.YtkjkhoglkpepiaaGreatDoor.vtc Go.Proofs.YtkjkhoglkpepiaaGreatDoor.nmc
theorem cells16 {l:List Value}(h:l.length=16): ∃a0 a1 a2 a3 a4 a5 a6 a7 a8 a9 a10 a11 a12 a13 a14 a15,l=[a0,a1,a2,a3,a4,a5,a6,a7,a8,a9,a10,a11,a12,a13,a14,a15]:=by
  match l,h with
  | [a0,a1,a2,a3,a4,a5,a6,a7,a8,a9,a10,a11,a12,a13,a14,a15],_=>exact⟨a0,a1,a2,a3,a4,a5,a6,a7,a8,a9,a10,a11,a12,a13,a14,a15,rfl⟩

set_option maxRecDepth 100000 in
set_option maxHeartbeats 32000000 in
theorem walk (x0:List dtc.Dt)(c0_0 c0_1 c0_2 c0_3 c0_4 c0_5 c0_6 c0_7 c0_8 c0_9 c0_10 c0_11 c0_12 c0_13 c0_14 c0_15:Value)(w:World)(s0:dtc.IsShs [.int .i64,.row (.agg [.row (.int .i64),.str]),.int .i64,.int .i64,.row (.agg [.row (.int .i64),.str]),.int .i64,.agg [.bool,.bool,.int .i64,.int .u16,.row (.row (.int .i64)),.row (.agg [.str,.row (.str)]),.row (.row (.agg [.row (.int .i64),.str])),.row (.row (.agg [.row (.int .i64),.str])),.row (.agg [.row (.int .i64),.bool,.bys])],.int .i64] x0)(w0:dtc.LiesAll (fun _=>True) w x0 [c0_0,c0_1,c0_2,c0_3,c0_4,c0_5,c0_6,c0_7,c0_8,c0_9,c0_10,c0_11,c0_12,c0_13,c0_14,c0_15])(y0:dtc.fitDts x0)(hT:txc.Tabs w):
    Calls Tryz.prog 3 #[.agg #[c0_0,c0_1,c0_2,c0_3,c0_4,c0_5,c0_6,c0_7,c0_8,c0_9,c0_10,c0_11,c0_12,c0_13,c0_14,c0_15]] w fun e w'=>e=.returned (.bool true)∧Below w.heap.size w w':=by
 obtain⟨c,hx⟩:=ce_of s0 w0 y0
 obtain⟨a0,A1,l1',i1,a2,a3,A4,l4,i4,a5,q0,q1,q2,q3,B4,m4,j4,B5,m5,j5,B6,m6,j6,B7,m7,j7,B8,m8,j8,a7,rfl,rfl,rfl,rfl,rfl,rfl,rfl,rfl,rfl,rfl,rfl,rfl,rfl,rfl,rfl,rfl⟩:=ceC_shape hx
 obtain⟨W0,hW0⟩:=nm_ (w.alloc (.cells #[.int .i64 a0,.slice A1 l1' i1,.int .i64 a2,.int .i64 a3,.slice A4 l4 i4,.int .i64 a5,.bool q0,.bool q1,.int .i64 q2,.int .u16 q3,.slice B4 m4 j4,.slice B5 m5 j5,.slice B6 m6 j6,.slice B7 m7 j7,.slice B8 m8 j8,.int .i64 a7] 32))
 have hb0:Below w.heap.size w W0:=by rw[←hW0];exact nmc.below_new _ _
 have v0:W0.heap[w.heap.size]? =some (.cells #[.int .i64 a0,.slice A1 l1' i1,.int .i64 a2,.int .i64 a3,.slice A4 l4 i4,.int .i64 a5,.bool q0,.bool q1,.int .i64 q2,.int .u16 q3,.slice B4 m4 j4,.slice B5 m5 j5,.slice B6 m6 j6,.slice B7 m7 j7,.slice B8 m8 j8,.int .i64 a7] 32):=by rw[←hW0];exact heap_new_ _ _
 have hbw:=fun W (hW:Below W0.heap.size W0 W)=>nmc.below_then hb0 hW (lr_ _)
 have HBW:=hd_ hbw
 have HBK:=hd_ (fun W (hW:Below W0.heap.size W0 W)=>box16 ((hW.block _ (Array.getElem?_eq_some_iff.1 v0).1).trans v0))
 have HHD:=hd_ (head11_any W0 (hT.below hb0))
 have H1:=hd_ (fun W (hW:Below W0.heap.size W0 W)=>(put_cert _ c _ _ _ _ _ _ _ _ _ _ _ _ _ _ _ _ W (hx.below (hbw W hW)) (hT.below (hbw W hW))).mono (fun e w' h=>pp_u h))
 have H2:=hd_ (fun W (hW:Below W0.heap.size W0 W)=>rputC_any _ c _ _ _ _ _ _ _ _ _ _ _ _ _ _ _ _ W (hx.below (hbw W hW)) (hT.below (hbw W hW)))
 have H3:=hd_ (fun W (hW:Below W0.heap.size W0 W)=>(body_any _ c _ _ _ _ _ _ _ _ _ _ _ _ _ _ _ _ W (hx.below (hbw W hW)) (hT.below (hbw W hW))).mono (fun e w' h=>pp_u h))
 have H4:=hd_ (fun W (hW:Below W0.heap.size W0 W)=>rBodyC_any _ c _ _ _ _ _ _ _ _ _ _ _ _ _ _ _ _ W (hx.below (hbw W hW)) (hT.below (hbw W hW)))
 obtain⟨P1,hP1⟩:=nm_ (putC c)
 obtain⟨P2,hP2⟩:=nm_ (bodyW c)
 rw[hP1] at H1 H2
 rw[hP2] at H3 H4
 clear hbw v0 hb0 hT hx hP1 hP2
 go_enter Tryz.func3,Tryz.ntmps3
 go_wp2_with fail
 refine HHD.out.mono ?_
 rintro e wa ⟨rfl,hba⟩
 obtain⟨⟨u0,u1,u2,u3,u4,u5⟩,⟨u6,u7,u8,u9,u10,u11,u12,u13,u14⟩,u15⟩:=HBK.out wa hba
 have HC:=hd_ (H1.out wa hba)
 have HA:=hd_ hba
 clear hba HHD H1 hW0
 go_wp2_with fail
 clear u0 u1 u2 u3 u4 u5 u6 u7 u8 u9 u10 u11 u12 u13 u14 u15
 refine HC.out.mono ?_
 rintro e wb ⟨hbb,D1,n1,d1,rfl,hn1,g1⟩
 obtain⟨E1,hE1⟩:=nm_ (erOf P1)
 have HE1:=hd_ hE1
 rw[hE1]
 have hb:=nmc.below_then HA.out hbb (lr_ _)
 obtain⟨⟨u0,u1,u2,u3,u4,u5⟩,⟨u6,u7,u8,u9,u10,u11,u12,u13,u14⟩,u15⟩:=HBK.out wb hb
 have HC:=hd_ (H2.out wb hb)
 have HB:=hd_ (ai_ hb (ai_ hn1 g1))
 clear hbb hb HA H2 hn1 g1 hE1
 go_wp2_with fail
 clear u0 u1 u2 u3 u4 u5 u6 u7 u8 u9 u10 u11 u12 u13 u14 u15
 refine HC.out.mono ?_
 rintro e wc ⟨hbc,D2,n2,d2,rfl,hn2,g2⟩
 rw[HE1.out]
 obtain rfl:n2=n1:=hn2.trans HB.out.2.1.symm
 have hb:=nmc.below_then HB.out.1 hbc (lr_ _)
 obtain⟨⟨u0,u1,u2,u3,u4,u5⟩,⟨u6,u7,u8,u9,u10,u11,u12,u13,u14⟩,u15⟩:=HBK.out wc hb
 have HC:=hd_ (H3.out wc hb)
 have HD:=hd_ (ai_ hb (ai_ (HB.out.2.2.below hbc) g2))
 clear hbc hb HB H3 hn2 g2
 go_wp2_with fail
 clear u0 u1 u2 u3 u4 u5 u6 u7 u8 u9 u10 u11 u12 u13 u14 u15
 refine HC.out.mono ?_
 rintro e wd ⟨hbd,D3,n3,d3,rfl,hn3,g3⟩
 obtain⟨E2,hE2⟩:=nm_ (erOf P2)
 have HE2:=hd_ hE2
 rw[hE2]
 have hb:=nmc.below_then HD.out.1 hbd (lr_ _)
 obtain⟨⟨u0,u1,u2,u3,u4,u5⟩,⟨u6,u7,u8,u9,u10,u11,u12,u13,u14⟩,u15⟩:=HBK.out wd hb
 have HC:=hd_ (H4.out wd hb)
 have HE:=hd_ (ai_ hb (ai_ (HD.out.2.1.below hbd) (ai_ (HD.out.2.2.below hbd) (ai_ hn3 g3))))
 clear hbd hb HD H4 hn3 g3 hE2
 go_wp2_with fail
 clear u0 u1 u2 u3 u4 u5 u6 u7 u8 u9 u10 u11 u12 u13 u14 u15
 refine HC.out.mono ?_
 rintro e we ⟨hbe,D4,n4,d4,rfl,hn4,g4⟩
 rw[HE2.out]
 obtain rfl:n4=n3:=hn4.trans HE.out.2.2.2.1.symm
 have hb:=nmc.below_then HE.out.1 hbe (lr_ _)
 have k1:=intc.str_now (HE.out.2.1.below hbe) d1
 have k2:=intc.str_now (HE.out.2.2.1.below hbe) d2
 have k3:=intc.str_now (HE.out.2.2.2.2.below hbe) d3
 have k4:=intc.str_now g4 d4
 have HF:=hd_ (HBW.out _ hb)
 obtain⟨S1,hS1⟩:=nm_ (strOfNums (okOf P1))
 obtain⟨S2,hS2⟩:=nm_ (strOfNums (okOf P2))
 rw[hS1] at k1 k2
 rw[hS2] at k3 k4
 clear hbe hb HE HC g4 hn4 hS1 hS2
 go_wp2
 go_ret
 exact⟨rfl,HF.out⟩

theorem reads (os:Os){H:Type}(enc:TypeId × Value→H): ∃places,DataW.whole enc Tryz.prog ((txc.laidWorld os).forCall (fun _ _=>0) ⟨#[],#[.agg #[.int .i64 0,.slice none 0 0,.int .i64 0,.int .i64 0,.slice none 0 0,.int .i64 0,.bool false,.bool false,.int .i64 0,.int .u16 0,.slice none 0 0,.slice none 0 0,.slice none 0 0,.slice none 0 0,.slice none 0 0,.int .i64 0]],[]⟩).memory Tryz.f3.params.toList Rows.certsPutSpec.vars false (#[.agg #[.int .i64 0,.slice none 0 0,.int .i64 0,.int .i64 0,.slice none 0 0,.int .i64 0,.bool false,.bool false,.int .i64 0,.int .u16 0,.slice none 0 0,.slice none 0 0,.slice none 0 0,.slice none 0 0,.slice none 0 0,.int .i64 0]]:Array Value).toList 8=some ([.agg [.lit (.int .i64 0),.nil,.lit (.int .i64 0),.lit (.int .i64 0),.nil,.lit (.int .i64 0),.agg [.lit (.bool false),.lit (.bool false),.lit (.int .i64 0),.lit (.int .u16 0),.nil,.nil,.nil,.nil,.nil],.lit (.int .i64 0)]],[],places):=
  ⟨[],by kernel_rfl⟩
set_option maxRecDepth 100000 in
theorem lifted (os:Os)(started:os.Started)(H:Type)(enc:TypeId × Value→H)(F:Stop.Interp):
    ReturnsInHanded {} Tryz.checked os 3 .any ((OpenSpec.ofChange Rows.certsPutSpec).preRow enc Tryz.prog Tryz.f3 Rows.certsPutRow.domain false Rows.certsPutRow.laid) (((OpenSpec.ofChange Rows.certsPutSpec).at F).post enc Tryz.prog Tryz.f3 false true false false):=by
  obtain⟨places,hx⟩:=reads os enc
  refine returnsInHanded_of_row (C:=Tryz.checked) (s:=(OpenSpec.ofChange Rows.certsPutSpec)) own started (by kernel_rfl) Tryz.func3
    (witness_row_at (enc:=enc) (C:=Tryz.checked) false (txc.laidWorld os) #[.agg #[.int .i64 0,.slice none 0 0,.int .i64 0,.int .i64 0,.slice none 0 0,.int .i64 0,.bool false,.bool false,.int .i64 0,.int .u16 0,.slice none 0 0,.slice none 0 0,.slice none 0 0,.slice none 0 0,.slice none 0 0,.int .i64 0]] rfl (by kernel_rfl) (by kernel_rfl) (by kernel_rfl)
      (OpenSpec.preRow_of_cond 8 hx (by kernel_rfl) (fun k hk=>by cases hk) (by kernel_rfl) (txc.laid_met os _))) ?_
  intro W base args ds gs before hval0 hW hcnd hcond hsz0 hL _ _
  have hval: ∀(j:Nat) t v,Tryz.f3.params[j]? =some t→args[j]? =some v→Value.okWide Tryz.prog W .any base t v:=hval0
  have hW':=hW
  obtain⟨p,q,hA0,hV,rfl,hfz,hnd⟩:=hW
  have hA:DataW.TrodAll enc Tryz.prog W 0 (fun _=>true) true Tryz.f3.params.toList args.toList ds p:=hA0
  have hsz:(DataW.weightsEach Tryz.prog (Tryz.f3.params.toList++(OpenSpec.ofChange Rows.certsPutSpec).bare.plain.varTypes Tryz.prog) (ds++gs)).all (· ≤reachBytes)=true:=hsz0
  rw[Tryz.params3] at hA hval hsz
  obtain⟨v0,vs0,d0,ds0,p0,q0,hargs,rfl,rfl,h0,r_0⟩:=trodAll_cons hA
  obtain⟨rfl,rfl,rfl⟩:=trodAll_nil r_0
  obtain rfl:args=#[v0]:=by cases args;simp_all
  obtain⟨rfl,rfl⟩:=trodVars_none hV
  have k0:=h0
  have lt0: ∀x∈p0,x.block<W.heap.size:=by obtain⟨m,hm⟩:=k0;exact DataW.trod_lt m _ _ _ hm
  obtain⟨cl0,x0,rfl,cn0,s0,w0,z0⟩:=dtc.open_agg (l:=[.int .i64,.row (.agg [.row (.int .i64),.str]),.int .i64,.int .i64,.row (.agg [.row (.int .i64),.str]),.int .i64,.agg [.bool,.bool,.int .i64,.int .u16,.row (.row (.int .i64)),.row (.agg [.str,.row (.str)]),.row (.row (.agg [.row (.int .i64),.str])),.row (.row (.agg [.row (.int .i64),.str])),.row (.agg [.row (.int .i64),.bool,.bys])],.int .i64]) Tryz.underlying32 (dtc.fit_agg Tryz.underlying32 (by kernel_rfl) (dtc.fits_cons (by kernel_rfl) (dtc.fit_int Tryz.underlying2 (by kernel_rfl)) (dtc.fits_cons (by kernel_rfl) (dtc.fit_row Tryz.underlying23 (dtc.fit_agg Tryz.underlying85 (by kernel_rfl) (dtc.fits_cons (by kernel_rfl) (dtc.fit_row Tryz.underlying83 (dtc.fit_int Tryz.underlying3 (by kernel_rfl)) (by kernel_rfl) (by kernel_rfl)) (dtc.fits_cons (by kernel_rfl) (dtc.fit_str Tryz.underlying9 (by kernel_rfl)) dtc.fits_nil))) (by kernel_rfl) (by kernel_rfl)) (dtc.fits_cons (by kernel_rfl) (dtc.fit_int Tryz.underlying2 (by kernel_rfl)) (dtc.fits_cons (by kernel_rfl) (dtc.fit_int Tryz.underlying2 (by kernel_rfl)) (dtc.fits_cons (by kernel_rfl) (dtc.fit_row Tryz.underlying23 (dtc.fit_agg Tryz.underlying85 (by kernel_rfl) (dtc.fits_cons (by kernel_rfl) (dtc.fit_row Tryz.underlying83 (dtc.fit_int Tryz.underlying3 (by kernel_rfl)) (by kernel_rfl) (by kernel_rfl)) (dtc.fits_cons (by kernel_rfl) (dtc.fit_str Tryz.underlying9 (by kernel_rfl)) dtc.fits_nil))) (by kernel_rfl) (by kernel_rfl)) (dtc.fits_cons (by kernel_rfl) (dtc.fit_int Tryz.underlying3 (by kernel_rfl)) (dtc.fits_cons (by kernel_rfl) (dtc.fit_agg Tryz.underlying30 (by kernel_rfl) (dtc.fits_cons (by kernel_rfl) (dtc.fit_bool Tryz.underlying4 (by kernel_rfl)) (dtc.fits_cons (by kernel_rfl) (dtc.fit_bool Tryz.underlying4 (by kernel_rfl)) (dtc.fits_cons (by kernel_rfl) (dtc.fit_int Tryz.underlying3 (by kernel_rfl)) (dtc.fits_cons (by kernel_rfl) (dtc.fit_int Tryz.underlying24 (by kernel_rfl)) (dtc.fits_cons (by kernel_rfl) (dtc.fit_row Tryz.underlying25 (dtc.fit_row Tryz.underlying83 (dtc.fit_int Tryz.underlying3 (by kernel_rfl)) (by kernel_rfl) (by kernel_rfl)) (by kernel_rfl) (by kernel_rfl)) (dtc.fits_cons (by kernel_rfl) (dtc.fit_row Tryz.underlying26 (dtc.fit_agg Tryz.underlying117 (by kernel_rfl) (dtc.fits_cons (by kernel_rfl) (dtc.fit_str Tryz.underlying9 (by kernel_rfl)) (dtc.fits_cons (by kernel_rfl) (dtc.fit_row Tryz.underlying115 (dtc.fit_str Tryz.underlying9 (by kernel_rfl)) (by kernel_rfl) (by kernel_rfl)) dtc.fits_nil))) (by kernel_rfl) (by kernel_rfl)) (dtc.fits_cons (by kernel_rfl) (dtc.fit_row Tryz.underlying27 (dtc.fit_row Tryz.underlying23 (dtc.fit_agg Tryz.underlying85 (by kernel_rfl) (dtc.fits_cons (by kernel_rfl) (dtc.fit_row Tryz.underlying83 (dtc.fit_int Tryz.underlying3 (by kernel_rfl)) (by kernel_rfl) (by kernel_rfl)) (dtc.fits_cons (by kernel_rfl) (dtc.fit_str Tryz.underlying9 (by kernel_rfl)) dtc.fits_nil))) (by kernel_rfl) (by kernel_rfl)) (by kernel_rfl) (by kernel_rfl)) (dtc.fits_cons (by kernel_rfl) (dtc.fit_row Tryz.underlying27 (dtc.fit_row Tryz.underlying23 (dtc.fit_agg Tryz.underlying85 (by kernel_rfl) (dtc.fits_cons (by kernel_rfl) (dtc.fit_row Tryz.underlying83 (dtc.fit_int Tryz.underlying3 (by kernel_rfl)) (by kernel_rfl) (by kernel_rfl)) (dtc.fits_cons (by kernel_rfl) (dtc.fit_str Tryz.underlying9 (by kernel_rfl)) dtc.fits_nil))) (by kernel_rfl) (by kernel_rfl)) (by kernel_rfl) (by kernel_rfl)) (dtc.fits_cons (by kernel_rfl) (dtc.fit_row Tryz.underlying28 (dtc.fit_agg Tryz.underlying102 (by kernel_rfl) (dtc.fits_cons (by kernel_rfl) (dtc.fit_row Tryz.underlying83 (dtc.fit_int Tryz.underlying3 (by kernel_rfl)) (by kernel_rfl) (by kernel_rfl)) (dtc.fits_cons (by kernel_rfl) (dtc.fit_bool Tryz.underlying4 (by kernel_rfl)) (dtc.fits_cons (by kernel_rfl) (dtc.fit_bys Tryz.underlying34 Tryz.underlying5 (by kernel_rfl) (by kernel_rfl) (by kernel_rfl)) dtc.fits_nil)))) (by kernel_rfl) (by kernel_rfl)) dtc.fits_nil)))))))))) (dtc.fits_cons (by kernel_rfl) (dtc.fit_int Tryz.underlying3 (by kernel_rfl)) dtc.fits_nil))))))))) (hval 0 32 v0 rfl rfl) h0
  have y0:=z0 (dtc.each_fit hsz (j:=0) rfl rfl)
  have cn0:cl0.length=16:=by simpa[dtc.szs,dtc.Sh.sz] using cn0
  obtain⟨c0_0,c0_1,c0_2,c0_3,c0_4,c0_5,c0_6,c0_7,c0_8,c0_9,c0_10,c0_11,c0_12,c0_13,c0_14,c0_15,ecl0⟩:=cells16 cn0
  subst ecl0
  clear hA0 hval0
  have hT:txc.Tabs W:=txc.tabs_of hL
  refine(walk x0 c0_0 c0_1 c0_2 c0_3 c0_4 c0_5 c0_6 c0_7 c0_8 c0_9 c0_10 c0_11 c0_12 c0_13 c0_14 c0_15 W s0 w0 y0 hT).mono fun e W' ⟨he,bel⟩=>?_
  subst he
  exact⟨_,rfl,_,_,_,[],_,[],hW',trodAll_mk1 (shut_bool Tryz.underlying4 _),(trodAll_cons_mk (Below.trod laidOut (by kernel_rfl) (of_decide_eq_true (by kernel_rfl)) k0 bel lt0) trodAll_mk0),rfl,bel.frame _,fun h=>by cases h⟩

theorem over:Rows.certsPutRow.holds Tryz.pinned (OpenSpec.ofChange Rows.certsPutSpec):=
  OpenClaim.holds_of_cond 3 Tryz.f3 rfl rfl rfl rfl rfl rfl rfl ⟨rfl,rfl,rfl,rfl,rfl⟩ rfl rfl rfl rfl rfl (by kernel_rfl) Tryz.func3 (by kernel_rfl)
    (of_decide_eq_true (by kernel_rfl)) (by unfold Func.isWrapper;first | (rw[if_pos (by decide+kernel)];kernel_rfl) | (rw[if_neg (by decide+kernel)];exact⟨rfl,rfl⟩))
    (fun os started H enc _ F=>by rw[OpenClaim.pre_eq_preRow];exact lifted os started H enc F)

theorem plain (f:FuncId)(fn:Func)(hf:Tryz.pinned.checked.prog.funcNamed "warder/warderlaw11.CertsPut" =some f)(hfn:Tryz.pinned.checked.prog.funcs[f]? =some fn):
    true=Tryz.pinned.checked.prog.looks []∧∀(j:Nat) t,fn.params[j]? =some t→Tryz.pinned.checked.prog.wantsStandIn t=false:=by
  obtain rfl:f=3:=Option.some.inj ((show Tryz.prog.funcNamed "warder/warderlaw11.CertsPut" =some 3 by kernel_rfl).symm.trans hf) |>.symm
  obtain rfl:fn=Tryz.f3:=(Option.some.inj (Tryz.func3.symm.trans hfn)).symm
  refine⟨by kernel_rfl,fun j t ht=>?_⟩
  rw[Tryz.params3] at ht
  match j,ht with
    |0,ht=>obtain rfl:t=32:=(Option.some.inj ht).symm;exact(show Tryz.prog.wantsStandIn 32=false by kernel_rfl)
    |j+1,ht=>simp at ht

theorem proved:Rows.CertsPutCardSaid:=
  Claim7.holds_tied_plain_at .later [] _ _ _ _ over (fun _ h=>by cases h) (by kernel_rfl) (fun _ h=>by cases h) certsPut_row_tie rfl ⟨rfl,rfl⟩ (by kernel_rfl) rfl plain (by kernel_rfl)
#print axioms proved
end Go.Proofs.YtkjkhoglkpepiaaGreatDoor.certsPut
