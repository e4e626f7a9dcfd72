/- The law CrlsGet of warderlaw12 answers true for any bytes, any list, any serial and any time, and leaves its arguments as they were; no condition but that the library's two tables are as its text lays them. -/
import Derived.Test.YtconbejjagcnkaaGreatDoorCards
import Derived.Test.YtconbejjagcnkaaGreatDoorTie
import Derived.WalkKit
import Derived.ProofKit
import Derived.OpenShut
import Derived.ChangeOld
import Derived.Below
import Derived.SizedLaws
import Derived.Test.YtconbejjagcnkaaGreatDoorKb
import Derived.Test.YtconbejjagcnkaaGreatDoorXc
import Derived.Test.YtconbejjagcnkaaGreatDoorWj
import Derived.Test.YtconbejjagcnkaaGreatDoorWq
namespace Go.Proofs.YtconbejjagcnkaaGreatDoor.crlsGet
open Go.ChangeShapes Go.WideShapes Go.ChangeAt Go.RowKit
set_option linter.unusedVariables false

theorem own:ownKnob Tryz.prog.godebug=none:=by kernel_rfl
theorem laidOut:laidOutB Tryz.prog=true:=by kernel_rfl

open Go.Proofs.YtconbejjagcnkaaGreatDoor Go.Proofs.YtconbejjagcnkaaGreatDoor.intm Go.Proofs.YtconbejjagcnkaaGreatDoor.tlvc Go.Proofs.YtconbejjagcnkaaGreatDoor.tlvd Go.Proofs.YtconbejjagcnkaaGreatDoor.ndc Go.Proofs.YtconbejjagcnkaaGreatDoor.txc Go.Proofs.YtconbejjagcnkaaGreatDoor.intc Go.Proofs.YtconbejjagcnkaaGreatDoor.vtc Go.Proofs.YtconbejjagcnkaaGreatDoor.nmc
theorem cells5 {l:List Value}(h:l.length=5): ∃a0 a1 a2 a3 a4,l=[a0,a1,a2,a3,a4]:=by
  match l,h with
  | [a0,a1,a2,a3,a4],_=>exact⟨a0,a1,a2,a3,a4,rfl⟩

set_option maxRecDepth 100000 in
set_option maxHeartbeats 32000000 in
theorem walk (a0:Option Addr)(len0 cap0:Nat)(x0:List Int)(x1:List dtc.Dt)(c1_0 c1_1 c1_2 c1_3 c1_4:Value)(a2:Int)(a3:Int)(w:World)(w0:tlvc.Bys w a0 len0 x0)(l0:len0≤cap0)(r0:cap0≤140737488351232)(s1:dtc.IsShs [.row (.agg [.row (.int .i64),.str]),.int .i64,.int .i64,.row (.int .i64),.int .i64] x1)(w1:dtc.LiesAll (fun _=>True) w x1 [c1_0,c1_1,c1_2,c1_3,c1_4])(y1:dtc.fitDts x1)(w2:(Lit.int .i64 a2).wf=true)(w3:(Lit.int .i64 a3).wf=true)(hT:txc.Tabs w):
    Calls Tryz.prog 4 #[.slice a0 len0 cap0,.agg #[c1_0,c1_1,c1_2,c1_3,c1_4],.int .i64 a2,.int .i64 a3] w fun e w'=>e=.returned (.bool true)∧Below w.heap.size w w':=by
 obtain⟨c,hx⟩:=cr_of s1 w1 y1
 obtain⟨A0,m0,k0,b1,b2,A3,m3,k3,b4,rfl,rfl,rfl,rfl,rfl⟩:=hx.shape
 obtain⟨W0,hW0⟩:=nm_ (w.alloc (.cells #[.slice A0 m0 k0,.int .i64 b1,.int .i64 b2,.slice A3 m3 k3,.int .i64 b4] 26))
 have hb0:Below w.heap.size w W0:=by rw[←hW0];exact nmc.below_new _ _
 have v0:W0.heap[w.heap.size]? =some (.cells #[.slice A0 m0 k0,.int .i64 b1,.int .i64 b2,.slice A3 m3 k3,.int .i64 b4] 26):=by rw[←hW0];exact heap_new_ _ _
 have hbw:=fun W (hW:Below W0.heap.size W0 W)=>nmc.below_then hb0 hW (lr_ _)
 have HBW:=hd_ hbw
 have HBK:=hd_ (fun W (hW:Below W0.heap.size W0 W)=>(hW.block _ (Array.getElem?_eq_some_iff.1 v0).1).trans v0)
 have HTT:=hd_ (fun W hW=>hT.below (hbw W hW))
 have HXX:=hd_ (fun W (hW:Below W0.heap.size W0 W)=>hx.below (hbw W hW))
 have HHD:=hd_ (head12_any W0 (hT.below hb0))
 obtain⟨⟨G1,G2⟩,hG⟩:=nm_ (resL x0)
 have h1:=fun W (hW:Below W0.heap.size W0 W)=>getL_any a0 len0 cap0 x0 W (w0.below (hbw W hW)) l0 (by unfold maxLen;omega) (HTT.out W hW)
 have h2:=fun W (hW:Below W0.heap.size W0 W)=>rgetL_any a0 len0 cap0 x0 W (w0.below (hbw W hW)) l0 (by unfold maxLen;omega) (HTT.out W hW)
 rw[hG] at h1 h2
 have H1:=hd_ h1
 have H2:=hd_ h2
 obtain⟨lv,hlv⟩:=nm_ (listsB c a2 a3)
 have hl1:=fun W (hW:Below W0.heap.size W0 W)=>lists_any _ c _ _ _ _ _ a2 a3 W (HXX.out W hW)
 have hl2:=fun W (hW:Below W0.heap.size W0 W)=>rlistsL_any _ c _ _ _ _ _ a2 a3 W (HXX.out W hW)
 rw[hlv] at hl1 hl2
 have HL1:=hd_ hl1
 have HL2:=hd_ hl2
 clear hbw v0 hb0 hT hx h1 h2 hG w0 hl1 hl2 hlv
 go_enter Tryz.func4,Tryz.ntmps4
 go_wp2_with fail
 refine HHD.out.mono ?_
 rintro e wa ⟨rfl,hba⟩
 have HC:=hd_ (H1.out wa hba)
 have HA:=hd_ hba
 clear hba HHD H1 hW0
 go_wp2_with fail
 refine HC.out.mono ?_
 rintro e wb hp
 obtain⟨hbb,c0,c1,c2,c3,c4,rfl,hcc⟩:=rgetL_cells hp
 obtain⟨E0,e0,i0,q1,q2,E3,e3,i3,q4,rfl,rfl,rfl,rfl,rfl⟩:=hcc.shape
 obtain⟨Wb,hWb⟩:=nm_ (wb.alloc (.cells #[.slice E0 e0 i0,.int .i64 q1,.int .i64 q2,.slice E3 e3 i3,.int .i64 q4] 26))
 have hbn:Below wb.heap.size wb Wb:=by rw[←hWb];exact nmc.below_new _ _
 have pb:Wb.heap[wb.heap.size]? =some (.cells #[.slice E0 e0 i0,.int .i64 q1,.int .i64 q2,.slice E3 e3 i3,.int .i64 q4] 26):=by rw[←hWb];exact heap_new_ _ _
 obtain⟨gb,hgb⟩:=nm_ wb.heap.size
 rw[hgb] at pb
 have hb:=nmc.below_then (nmc.below_then HA.out hbb (lr_ _)) hbn (lr_ _)
 have HC:=hd_ (H2.out Wb hb)
 have HB:=hd_ (ai_ hb (ai_ pb (hcc.below hbn)))
 clear hbb hbn pb hcc hb hp HA H2
 go_wp2_with fail
 refine HC.out.mono ?_
 rintro e wc hp
 obtain⟨hbc,c0,c1,c2,c3,c4,rfl,hcd⟩:=rgetL_cells hp
 obtain⟨F0,f0,j0,s1,s2,F3,f3,j3,s4,rfl,rfl,rfl,rfl,rfl⟩:=hcd.shape
 obtain⟨Wd,hWd⟩:=nm_ (wc.alloc (.cells #[.slice F0 f0 j0,.int .i64 s1,.int .i64 s2,.slice F3 f3 j3,.int .i64 s4] 26))
 have hbn:Below wc.heap.size wc Wd:=by rw[←hWd];exact nmc.below_new _ _
 have pd:Wd.heap[wc.heap.size]? =some (.cells #[.slice F0 f0 j0,.int .i64 s1,.int .i64 s2,.slice F3 f3 j3,.int .i64 s4] 26):=by rw[←hWd];exact heap_new_ _ _
 obtain⟨gc,hgc⟩:=nm_ wc.heap.size
 rw[hgc] at pd
 have hbd:=nmc.below_then hbc hbn (lr_ _)
 have hb:=nmc.below_then HB.out.1 hbd (lr_ _)
 have pb:=(hbd.block _ (Array.getElem?_eq_some_iff.1 HB.out.2.1).1).trans HB.out.2.1
 have hc1:=HB.out.2.2.below hbd
 have hc2:=hcd.below hbn
 have HW:=hd_ (fun(d:Nat) (os:Array Obj)=>nmc.below_then hb (below_regrown Wd d os) (lr_ _))
 have HSM:=hd_ (fun(d:Nat) (os:Array Obj)=>rsameL_self _ _ (G2.getD cr0) _ _ _ _ _ _ _ _ _ _ («Sort».grow (redrawn Wd d) os) (hc1.below (below_regrown Wd d os)) (hc2.below (below_regrown Wd d os)))
 have m0:=fun(d:Nat) (os:Array Obj)=>box5 (((below_regrown Wd d os).block _ (Array.getElem?_eq_some_iff.1 pb).1).trans pb)
 have m1:=fun(d:Nat) (os:Array Obj)=>box5 (((below_regrown Wd d os).block _ (Array.getElem?_eq_some_iff.1 pd).1).trans pd)
 have m2:=fun(d:Nat) (os:Array Obj)=>box5 (HBK.out _ (HW.out d os))
 have k0:=fun d os=>(m0 d os).1
 have k1:=fun d os=>(m0 d os).2.1
 have k2:=fun d os=>(m0 d os).2.2.1
 have k3':=fun d os=>(m0 d os).2.2.2.1
 have k4:=fun d os=>(m0 d os).2.2.2.2
 have k5:=fun d os=>(m1 d os).1
 have k6:=fun d os=>(m1 d os).2.1
 have k7:=fun d os=>(m1 d os).2.2.1
 have k8:=fun d os=>(m1 d os).2.2.2.1
 have k9:=fun d os=>(m1 d os).2.2.2.2
 have n0:=fun d os=>(m2 d os).1
 have n1:=fun d os=>(m2 d os).2.1
 have n2:=fun d os=>(m2 d os).2.2.1
 have n3:=fun d os=>(m2 d os).2.2.2.1
 have n4:=fun d os=>(m2 d os).2.2.2.2
 clear hbc hbn pd hcd hb hp HB HC pb hc1 hc2 hbd m0 m1 m2
 have HR1:=hd_ (fun(d:Nat) (os:Array Obj)=>HL1.out _ (HW.out d os))
 have HR2:=hd_ (fun(d:Nat) (os:Array Obj)=>HL2.out _ (HW.out d os))
 have HF:=hd_ (fun(d:Nat) (os:Array Obj)=>HBW.out _ (HW.out d os))
 clear HL1 HL2 HW
 have hee:(G1==G1)=true:=by simp
 cases lv with
 |false=>
  go_wp2_with fail
  try dsimp only
  refine wp_region_quiet_below (by kernel_rfl) (by kernel_rfl) ?_
  repeat (go_big_quiet_step ((first | (go_at_call 12;refine Calls.regrown_of (HSM.out _ _)) | (go_at_call 13;refine Calls.regrown_of (HR1.out _ _)) | (go_at_call 14;refine Calls.regrown_of (HR2.out _ _)))))
  refine wpQuiet_nil ?_
  intro _ hw'
  obtain⟨⟨nq,osq⟩,hw''⟩:=hw'
  subst hw''
  have HE:=hd_ (HF.out nq osq)
  clear k0 k1 k2 k3' k4 k5 k6 k7 k8 k9 n0 n1 n2 n3 n4 HSM HR1 HR2 HF
  go_wp2
  go_ret
  exact⟨rfl,HE.out⟩
 |true=>
  go_wp2_with fail
  try dsimp only
  refine wp_region_quiet_below (by kernel_rfl) (by kernel_rfl) ?_
  repeat (go_big_quiet_step ((first | (go_at_call 12;refine Calls.regrown_of (HSM.out _ _)) | (go_at_call 13;refine Calls.regrown_of (HR1.out _ _)) | (go_at_call 14;refine Calls.regrown_of (HR2.out _ _)))))
  refine wpQuiet_nil ?_
  intro _ hw'
  obtain⟨⟨nq,osq⟩,hw''⟩:=hw'
  subst hw''
  have HE:=hd_ (HF.out nq osq)
  clear k0 k1 k2 k3' k4 k5 k6 k7 k8 k9 n0 n1 n2 n3 n4 HSM HR1 HR2 HF
  go_wp2
  go_ret
  exact⟨rfl,HE.out⟩

theorem reads (os:Os){H:Type}(enc:TypeId × Value→H): ∃places,DataW.whole enc Tryz.prog ((txc.laidWorld os).forCall (fun _ _=>0) ⟨#[],#[.slice none 0 0,.agg #[.slice none 0 0,.int .i64 0,.int .i64 0,.slice none 0 0,.int .i64 0],.int .i64 0,.int .i64 0],[]⟩).memory Tryz.f4.params.toList Rows.crlsGetSpec.vars false (#[.slice none 0 0,.agg #[.slice none 0 0,.int .i64 0,.int .i64 0,.slice none 0 0,.int .i64 0],.int .i64 0,.int .i64 0]:Array Value).toList 8=some ([.nil,.agg [.nil,.lit (.int .i64 0),.lit (.int .i64 0),.nil,.lit (.int .i64 0)],.lit (.int .i64 0),.lit (.int .i64 0)],[],places):=
  ⟨[],by kernel_rfl⟩
set_option maxRecDepth 100000 in
theorem lifted (os:Os)(started:os.Started)(H:Type)(enc:TypeId × Value→H)(F:Stop.Interp):
    ReturnsInHanded {} Tryz.checked os 4 .any ((OpenSpec.ofChange Rows.crlsGetSpec).preRow enc Tryz.prog Tryz.f4 Rows.crlsGetRow.domain false Rows.crlsGetRow.laid) (((OpenSpec.ofChange Rows.crlsGetSpec).at F).post enc Tryz.prog Tryz.f4 false true false false):=by
  obtain⟨places,hx⟩:=reads os enc
  refine returnsInHanded_of_row (C:=Tryz.checked) (s:=(OpenSpec.ofChange Rows.crlsGetSpec)) own started (by kernel_rfl) Tryz.func4
    (witness_row_at (enc:=enc) (C:=Tryz.checked) false (txc.laidWorld os) #[.slice none 0 0,.agg #[.slice none 0 0,.int .i64 0,.int .i64 0,.slice none 0 0,.int .i64 0],.int .i64 0,.int .i64 0] rfl (by kernel_rfl) (by kernel_rfl) (by kernel_rfl)
      (OpenSpec.preRow_of_cond 8 hx (by kernel_rfl) (fun k hk=>by cases hk) (by kernel_rfl) (txc.laid_met os _))) ?_
  intro W base args ds gs before hval0 hW hcnd hcond hsz0 hL _ _
  have hval: ∀(j:Nat) t v,Tryz.f4.params[j]? =some t→args[j]? =some v→Value.okWide Tryz.prog W .any base t v:=hval0
  have hW':=hW
  obtain⟨p,q,hA0,hV,rfl,hfz,hnd⟩:=hW
  have hA:DataW.TrodAll enc Tryz.prog W 0 (fun _=>true) true Tryz.f4.params.toList args.toList ds p:=hA0
  have hsz:(DataW.weightsEach Tryz.prog (Tryz.f4.params.toList++(OpenSpec.ofChange Rows.crlsGetSpec).bare.plain.varTypes Tryz.prog) (ds++gs)).all (· ≤reachBytes)=true:=hsz0
  rw[Tryz.params4] at hA hval hsz
  obtain⟨v0,vs0,d0,ds0,p0,q0,hargs,rfl,rfl,h0,r_0⟩:=trodAll_cons hA
  obtain⟨v1,vs1,d1,ds1,p1,q1,rfl,rfl,rfl,h1,r_1⟩:=trodAll_cons r_0
  obtain⟨v2,vs2,d2,ds2,p2,q2,rfl,rfl,rfl,h2,r_2⟩:=trodAll_cons r_1
  obtain⟨v3,vs3,d3,ds3,p3,q3,rfl,rfl,rfl,h3,r_3⟩:=trodAll_cons r_2
  obtain⟨rfl,rfl,rfl⟩:=trodAll_nil r_3
  obtain rfl:args=#[v0,v1,v2,v3]:=by cases args;simp_all
  obtain⟨rfl,rfl⟩:=trodVars_none hV
  obtain⟨a0,len0,cap0,rfl⟩:=okWide_slice Tryz.underlying28 (hval 0 28 v0 rfl rfl)
  have k0:=h0
  have lt0: ∀x∈p0,x.block<W.heap.size:=by obtain⟨m,hm⟩:=k0;exact DataW.trod_lt m _ _ _ hm
  obtain⟨x0,w0,l0,m0,s0⟩:=tlvc.open_bys Tryz.underlying28 Tryz.underlying5 (by kernel_rfl) h0
  have r0:=tlvc.spots_reach hsz s0 (j:=0) rfl rfl Tryz.underlying28 (of_decide_eq_true (by kernel_rfl))
  have k1:=h1
  have lt1: ∀x∈p1,x.block<W.heap.size:=by obtain⟨m,hm⟩:=k1;exact DataW.trod_lt m _ _ _ hm
  obtain⟨cl1,x1,rfl,cn1,s1,w1,z1⟩:=dtc.open_agg (l:=[.row (.agg [.row (.int .i64),.str]),.int .i64,.int .i64,.row (.int .i64),.int .i64]) Tryz.underlying26 (dtc.fit_agg Tryz.underlying26 (by kernel_rfl) (dtc.fits_cons (by kernel_rfl) (dtc.fit_row Tryz.underlying23 (dtc.fit_agg Tryz.underlying90 (by kernel_rfl) (dtc.fits_cons (by kernel_rfl) (dtc.fit_row Tryz.underlying84 (dtc.fit_int Tryz.underlying3 (by kernel_rfl)) (by kernel_rfl) (by kernel_rfl)) (dtc.fits_cons (by kernel_rfl) (dtc.fit_str Tryz.underlying9 (by kernel_rfl)) dtc.fits_nil))) (by kernel_rfl) (by kernel_rfl)) (dtc.fits_cons (by kernel_rfl) (dtc.fit_int Tryz.underlying2 (by kernel_rfl)) (dtc.fits_cons (by kernel_rfl) (dtc.fit_int Tryz.underlying2 (by kernel_rfl)) (dtc.fits_cons (by kernel_rfl) (dtc.fit_row Tryz.underlying24 (dtc.fit_int Tryz.underlying2 (by kernel_rfl)) (by kernel_rfl) (by kernel_rfl)) (dtc.fits_cons (by kernel_rfl) (dtc.fit_int Tryz.underlying3 (by kernel_rfl)) dtc.fits_nil)))))) (hval 1 26 v1 rfl rfl) h1
  have y1:=z1 (dtc.each_fit hsz (j:=1) rfl rfl)
  have cn1:cl1.length=5:=by simpa[dtc.szs,dtc.Sh.sz] using cn1
  obtain⟨c1_0,c1_1,c1_2,c1_3,c1_4,ecl1⟩:=cells5 cn1
  subst ecl1
  obtain⟨a2,rfl,rfl,rfl,w2⟩:=open_int Tryz.underlying2 (hval 2 2 v2 rfl rfl) h2
  obtain⟨a3,rfl,rfl,rfl,w3⟩:=open_int Tryz.underlying2 (hval 3 2 v3 rfl rfl) h3
  clear hA0 hval0
  have hT:txc.Tabs W:=txc.tabs_of hL
  refine(walk a0 len0 cap0 x0 x1 c1_0 c1_1 c1_2 c1_3 c1_4 a2 a3 W w0 l0 r0 s1 w1 y1 w2 w3 hT).mono fun e W' ⟨he,bel⟩=>?_
  subst he
  exact⟨_,rfl,_,_,_,[],_,[],hW',trodAll_mk1 (shut_bool Tryz.underlying4 _),(trodAll_cons_mk (Below.trod laidOut (by kernel_rfl) (of_decide_eq_true (by kernel_rfl)) k0 bel lt0) (trodAll_cons_mk (Below.trod laidOut (by kernel_rfl) (of_decide_eq_true (by kernel_rfl)) k1 bel lt1) (trodAll_cons_mk (shut_int Tryz.underlying2 w2) (trodAll_cons_mk (shut_int Tryz.underlying2 w3) trodAll_mk0)))),rfl,bel.frame _,fun h=>by cases h⟩

theorem over:Rows.crlsGetRow.holds Tryz.pinned (OpenSpec.ofChange Rows.crlsGetSpec):=
  OpenClaim.holds_of_cond 4 Tryz.f4 rfl rfl rfl rfl rfl rfl rfl ⟨rfl,rfl,rfl,rfl,rfl⟩ rfl rfl rfl rfl rfl (by kernel_rfl) Tryz.func4 (by kernel_rfl)
    (of_decide_eq_true (by kernel_rfl)) (by unfold Func.isWrapper;first | (rw[if_pos (by decide+kernel)];kernel_rfl) | (rw[if_neg (by decide+kernel)];exact⟨rfl,rfl⟩))
    (fun os started H enc _ F=>by rw[OpenClaim.pre_eq_preRow];exact lifted os started H enc F)

theorem plain (f:FuncId)(fn:Func)(hf:Tryz.pinned.checked.prog.funcNamed "warder/warderlaw12.CrlsGet" =some f)(hfn:Tryz.pinned.checked.prog.funcs[f]? =some fn):
    true=Tryz.pinned.checked.prog.looks []∧∀(j:Nat) t,fn.params[j]? =some t→Tryz.pinned.checked.prog.wantsStandIn t=false:=by
  obtain rfl:f=4:=Option.some.inj ((show Tryz.prog.funcNamed "warder/warderlaw12.CrlsGet" =some 4 by kernel_rfl).symm.trans hf) |>.symm
  obtain rfl:fn=Tryz.f4:=(Option.some.inj (Tryz.func4.symm.trans hfn)).symm
  refine⟨by kernel_rfl,fun j t ht=>?_⟩
  rw[Tryz.params4] at ht
  match j,ht with
    |0,ht=>obtain rfl:t=28:=(Option.some.inj ht).symm;exact(show Tryz.prog.wantsStandIn 28=false by kernel_rfl)
    |1,ht=>obtain rfl:t=26:=(Option.some.inj ht).symm;exact(show Tryz.prog.wantsStandIn 26=false by kernel_rfl)
    |2,ht=>obtain rfl:t=2:=(Option.some.inj ht).symm;exact(show Tryz.prog.wantsStandIn 2=false by kernel_rfl)
    |3,ht=>obtain rfl:t=2:=(Option.some.inj ht).symm;exact(show Tryz.prog.wantsStandIn 2=false by kernel_rfl)
    |j+4,ht=>simp at ht

theorem proved:Rows.CrlsGetCardSaid:=
  Claim7.holds_tied_plain_at .later [] _ _ _ _ over (fun _ h=>by cases h) (by kernel_rfl) (fun _ h=>by cases h) crlsGet_row_tie rfl ⟨rfl,rfl⟩ (by kernel_rfl) rfl plain (by kernel_rfl)
#print axioms proved
end Go.Proofs.YtconbejjagcnkaaGreatDoor.crlsGet
