/- The law CrlsPut of warderlaw12 answers true for any list, and leaves it as it was; no condition but that the library's two tables are as its text lays them. -/
import Derived.Test.YtconbejjagcnkaaGreatDoorCards
import Derived.Test.YtconbejjagcnkaaGreatDoorTie
import Derived.WalkKit
import Derived.ProofKit
import Derived.OpenShut
import Derived.ChangeOld
import Derived.Below
import Derived.SizedLaws
import Derived.Test.YtconbejjagcnkaaGreatDoorKb
import Derived.Test.YtconbejjagcnkaaGreatDoorXc
import Derived.Test.YtconbejjagcnkaaGreatDoorWj
import Derived.Test.YtconbejjagcnkaaGreatDoorWo
import Derived.Test.YtconbejjagcnkaaGreatDoorWs
namespace Go.Proofs.YtconbejjagcnkaaGreatDoor.crlsPut
open Go.ChangeShapes Go.WideShapes Go.ChangeAt Go.RowKit
set_option linter.unusedVariables false

theorem own:ownKnob Tryz.prog.godebug=none:=by kernel_rfl
theorem laidOut:laidOutB Tryz.prog=true:=by kernel_rfl

open Go.Proofs.YtconbejjagcnkaaGreatDoor Go.Proofs.YtconbejjagcnkaaGreatDoor.intm Go.Proofs.YtconbejjagcnkaaGreatDoor.tlvc Go.Proofs.YtconbejjagcnkaaGreatDoor.tlvd Go.Proofs.YtconbejjagcnkaaGreatDoor.ndc Go.Proofs.YtconbejjagcnkaaGreatDoor.txc Go.Proofs.YtconbejjagcnkaaGreatDoor.intc Go.Proofs.YtconbejjagcnkaaGreatDoor.vtc Go.Proofs.YtconbejjagcnkaaGreatDoor.nmc
theorem cells5 {l:List Value}(h:l.length=5): ∃a0 a1 a2 a3 a4,l=[a0,a1,a2,a3,a4]:=by
  match l,h with
  | [a0,a1,a2,a3,a4],_=>exact⟨a0,a1,a2,a3,a4,rfl⟩

set_option maxRecDepth 100000 in
set_option maxHeartbeats 32000000 in
theorem walk (x0:List dtc.Dt)(c0_0 c0_1 c0_2 c0_3 c0_4:Value)(w:World)(s0:dtc.IsShs [.row (.agg [.row (.int .i64),.str]),.int .i64,.int .i64,.row (.int .i64),.int .i64] x0)(w0:dtc.LiesAll (fun _=>True) w x0 [c0_0,c0_1,c0_2,c0_3,c0_4])(y0:dtc.fitDts x0)(hT:txc.Tabs w):
    Calls Tryz.prog 3 #[.agg #[c0_0,c0_1,c0_2,c0_3,c0_4]] w fun e w'=>e=.returned (.bool true)∧Below w.heap.size w w':=by
 obtain⟨c,hx⟩:=cr_of s0 w0 y0
 obtain⟨A0,m0,k0,b1,b2,A3,m3,k3,b4,rfl,rfl,rfl,rfl,rfl⟩:=hx.shape
 obtain⟨W0,hW0⟩:=nm_ (w.alloc (.cells #[.slice A0 m0 k0,.int .i64 b1,.int .i64 b2,.slice A3 m3 k3,.int .i64 b4] 26))
 have hb0:Below w.heap.size w W0:=by rw[←hW0];exact nmc.below_new _ _
 have v0:W0.heap[w.heap.size]? =some (.cells #[.slice A0 m0 k0,.int .i64 b1,.int .i64 b2,.slice A3 m3 k3,.int .i64 b4] 26):=by rw[←hW0];exact heap_new_ _ _
 have hbw:=fun W (hW:Below W0.heap.size W0 W)=>nmc.below_then hb0 hW (lr_ _)
 have HBW:=hd_ hbw
 have HBK:=hd_ (fun W (hW:Below W0.heap.size W0 W)=>(hW.block _ (Array.getElem?_eq_some_iff.1 v0).1).trans v0)
 have HTT:=hd_ (fun W hW=>hT.below (hbw W hW))
 have HXX:=hd_ (fun W (hW:Below W0.heap.size W0 W)=>hx.below (hbw W hW))
 have HHD:=hd_ (head12_any W0 (hT.below hb0))
 have hPV:(∃b1 b2,putL c=.ok b1∧bodyV c=.ok b2)∨(putL c=.no 121∧bodyV c=.no 121):=by
  cases hr:rightL c with
  |true=>
   obtain⟨b1,h1,_⟩:=lists_node hr
   obtain⟨b2,h2,_⟩:=lists_body (o:=0) (by decide) hr
   exact .inl ⟨b1,b2,by unfold putL;rw[if_pos hr];exact h1,by unfold bodyV;rw[if_pos hr];exact h2⟩
  |false=>exact .inr ⟨by unfold putL;rw[if_neg (by rw[hr];decide)],by unfold bodyV;rw[if_neg (by rw[hr];decide)]⟩
 have h1:=fun W (hW:Below W0.heap.size W0 W)=>putL_any _ c _ _ _ _ _ W (HXX.out W hW) (HTT.out W hW)
 have h2:=fun W (hW:Below W0.heap.size W0 W)=>rputL_any _ c _ _ _ _ _ W (HXX.out W hW) (HTT.out W hW)
 have h3:=fun W (hW:Below W0.heap.size W0 W)=>bodyL_any _ c _ _ _ _ _ W (HXX.out W hW) (HTT.out W hW)
 have h4:=fun W (hW:Below W0.heap.size W0 W)=>rBodyL_any _ c _ _ _ _ _ W (HXX.out W hW) (HTT.out W hW)
 clear hbw v0 hb0 hT hx
 go_enter Tryz.func3,Tryz.ntmps3
 rcases hPV with ⟨p1,p2,e1,e2⟩ | ⟨e1,e2⟩
 ·rw[e1] at h1 h2
  rw[e2] at h3 h4
  have H1:=hd_ h1
  have H2:=hd_ h2
  have H3:=hd_ h3
  have H4:=hd_ h4
  clear h1 h2 h3 h4 e1 e2
  go_wp2_with fail
  refine HHD.out.mono ?_
  rintro e wa ⟨rfl,hba⟩
  obtain⟨u0,u1,u2,u3,u4⟩:=box5 (HBK.out wa hba)
  have HC:=hd_ (H1.out wa hba)
  have HA:=hd_ hba
  clear hba HHD H1 hW0
  go_wp2_with fail
  clear u0 u1 u2 u3 u4
  refine HC.out.mono ?_
  rintro e wb ⟨hbb,D1,d1,rfl,g1,_,_⟩
  have hb:=nmc.below_then HA.out hbb (lr_ _)
  obtain⟨u0,u1,u2,u3,u4⟩:=box5 (HBK.out wb hb)
  have HC:=hd_ (H2.out wb hb)
  have HB:=hd_ (ai_ hb g1)
  obtain⟨n1,hn1⟩:=nm_ p1.length
  have HN1:=hd_ hn1
  rw[hn1] at HB⊢
  clear hbb hb HA H2 g1 hn1
  go_wp2_with fail
  clear u0 u1 u2 u3 u4
  refine HC.out.mono ?_
  rintro e wc ⟨hbc,D2,d2,rfl,g2,_,_⟩
  have hb:=nmc.below_then HB.out.1 hbc (lr_ _)
  obtain⟨u0,u1,u2,u3,u4⟩:=box5 (HBK.out wc hb)
  have HC:=hd_ (H3.out wc hb)
  rw[HN1.out] at g2⊢
  have HD:=hd_ (ai_ hb (ai_ (HB.out.2.below hbc) g2))
  clear hbc hb HB H3 g2
  go_wp2_with fail
  clear u0 u1 u2 u3 u4
  refine HC.out.mono ?_
  rintro e wd ⟨hbd,D3,d3,rfl,g3,_,_⟩
  have hb:=nmc.below_then HD.out.1 hbd (lr_ _)
  obtain⟨u0,u1,u2,u3,u4⟩:=box5 (HBK.out wd hb)
  have HC:=hd_ (H4.out wd hb)
  obtain⟨n2,hn2⟩:=nm_ p2.length
  have HN2:=hd_ hn2
  rw[hn2] at g3⊢
  have HE:=hd_ (ai_ hb (ai_ (HD.out.2.1.below hbd) (ai_ (HD.out.2.2.below hbd) g3)))
  clear hbd hb HD H4 g3 hn2
  go_wp2_with fail
  clear u0 u1 u2 u3 u4
  refine HC.out.mono ?_
  rintro e we ⟨hbe,D4,d4,rfl,g4,_,_⟩
  have hb:=nmc.below_then HE.out.1 hbe (lr_ _)
  rw[HN2.out] at g4⊢
  have k1:=intc.str_now (HE.out.2.1.below hbe) d1
  have k2:=intc.str_now (HE.out.2.2.1.below hbe) d2
  have k3:=intc.str_now (HE.out.2.2.2.below hbe) d3
  have k4:=intc.str_now g4 d4
  have HF:=hd_ (HBW.out _ hb)
  obtain⟨S1,hS1⟩:=nm_ (strOfNums p1)
  obtain⟨S2,hS2⟩:=nm_ (strOfNums p2)
  rw[hS1] at k1 k2
  rw[hS2] at k3 k4
  clear hbe hb HE HC g4 hS1 hS2
  go_wp2
  go_ret
  exact⟨rfl,HF.out⟩
 ·rw[e1] at h1 h2
  rw[e2] at h3 h4
  have H1:=hd_ h1
  have H2:=hd_ h2
  have H3:=hd_ h3
  have H4:=hd_ h4
  clear h1 h2 h3 h4 e1 e2
  go_wp2_with fail
  refine HHD.out.mono ?_
  rintro e wa ⟨rfl,hba⟩
  obtain⟨u0,u1,u2,u3,u4⟩:=box5 (HBK.out wa hba)
  have HC:=hd_ (H1.out wa hba)
  have HA:=hd_ hba
  clear hba HHD H1 hW0
  go_wp2_with fail
  clear u0 u1 u2 u3 u4
  refine HC.out.mono ?_
  rintro e wb ⟨hbb,rfl⟩
  have hb:=nmc.below_then HA.out hbb (lr_ _)
  obtain⟨u0,u1,u2,u3,u4⟩:=box5 (HBK.out wb hb)
  have HC:=hd_ (H2.out wb hb)
  have HB:=hd_ hb
  clear hbb hb HA H2
  go_wp2_with fail
  clear u0 u1 u2 u3 u4
  refine HC.out.mono ?_
  rintro e wc ⟨hbc,D2,d2,rfl⟩
  have hb:=nmc.below_then HB.out hbc (lr_ _)
  obtain⟨u0,u1,u2,u3,u4⟩:=box5 (HBK.out wc hb)
  have HC:=hd_ (H3.out wc hb)
  have HD:=hd_ hb
  clear hbc hb HB H3
  go_wp2_with fail
  clear u0 u1 u2 u3 u4
  refine HC.out.mono ?_
  rintro e wd ⟨hbd,rfl⟩
  have hb:=nmc.below_then HD.out hbd (lr_ _)
  obtain⟨u0,u1,u2,u3,u4⟩:=box5 (HBK.out wd hb)
  have HC:=hd_ (H4.out wd hb)
  have HE:=hd_ hb
  clear hbd hb HD H4
  go_wp2_with fail
  clear u0 u1 u2 u3 u4
  refine HC.out.mono ?_
  rintro e we ⟨hbe,D4,d4,rfl⟩
  have hb:=nmc.below_then HE.out hbe (lr_ _)
  have k1:=intc.str_now (Bys.nil_ we none) 0
  have k2:=intc.str_now (Bys.nil_ we D2) d2
  have k4:=intc.str_now (Bys.nil_ we D4) d4
  have HF:=hd_ (HBW.out _ hb)
  obtain⟨S1,hS1⟩:=nm_ (strOfNums [])
  rw[hS1] at k1 k2 k4
  clear hbe hb HE HC hS1
  go_wp2
  go_ret
  exact⟨rfl,HF.out⟩

theorem reads (os:Os){H:Type}(enc:TypeId × Value→H): ∃places,DataW.whole enc Tryz.prog ((txc.laidWorld os).forCall (fun _ _=>0) ⟨#[],#[.agg #[.slice none 0 0,.int .i64 0,.int .i64 0,.slice none 0 0,.int .i64 0]],[]⟩).memory Tryz.f3.params.toList Rows.crlsPutSpec.vars false (#[.agg #[.slice none 0 0,.int .i64 0,.int .i64 0,.slice none 0 0,.int .i64 0]]:Array Value).toList 8=some ([.agg [.nil,.lit (.int .i64 0),.lit (.int .i64 0),.nil,.lit (.int .i64 0)]],[],places):=
  ⟨[],by kernel_rfl⟩
set_option maxRecDepth 100000 in
theorem lifted (os:Os)(started:os.Started)(H:Type)(enc:TypeId × Value→H)(F:Stop.Interp):
    ReturnsInHanded {} Tryz.checked os 3 .any ((OpenSpec.ofChange Rows.crlsPutSpec).preRow enc Tryz.prog Tryz.f3 Rows.crlsPutRow.domain false Rows.crlsPutRow.laid) (((OpenSpec.ofChange Rows.crlsPutSpec).at F).post enc Tryz.prog Tryz.f3 false true false false):=by
  obtain⟨places,hx⟩:=reads os enc
  refine returnsInHanded_of_row (C:=Tryz.checked) (s:=(OpenSpec.ofChange Rows.crlsPutSpec)) own started (by kernel_rfl) Tryz.func3
    (witness_row_at (enc:=enc) (C:=Tryz.checked) false (txc.laidWorld os) #[.agg #[.slice none 0 0,.int .i64 0,.int .i64 0,.slice none 0 0,.int .i64 0]] rfl (by kernel_rfl) (by kernel_rfl) (by kernel_rfl)
      (OpenSpec.preRow_of_cond 8 hx (by kernel_rfl) (fun k hk=>by cases hk) (by kernel_rfl) (txc.laid_met os _))) ?_
  intro W base args ds gs before hval0 hW hcnd hcond hsz0 hL _ _
  have hval: ∀(j:Nat) t v,Tryz.f3.params[j]? =some t→args[j]? =some v→Value.okWide Tryz.prog W .any base t v:=hval0
  have hW':=hW
  obtain⟨p,q,hA0,hV,rfl,hfz,hnd⟩:=hW
  have hA:DataW.TrodAll enc Tryz.prog W 0 (fun _=>true) true Tryz.f3.params.toList args.toList ds p:=hA0
  have hsz:(DataW.weightsEach Tryz.prog (Tryz.f3.params.toList++(OpenSpec.ofChange Rows.crlsPutSpec).bare.plain.varTypes Tryz.prog) (ds++gs)).all (· ≤reachBytes)=true:=hsz0
  rw[Tryz.params3] at hA hval hsz
  obtain⟨v0,vs0,d0,ds0,p0,q0,hargs,rfl,rfl,h0,r_0⟩:=trodAll_cons hA
  obtain⟨rfl,rfl,rfl⟩:=trodAll_nil r_0
  obtain rfl:args=#[v0]:=by cases args;simp_all
  obtain⟨rfl,rfl⟩:=trodVars_none hV
  have k0:=h0
  have lt0: ∀x∈p0,x.block<W.heap.size:=by obtain⟨m,hm⟩:=k0;exact DataW.trod_lt m _ _ _ hm
  obtain⟨cl0,x0,rfl,cn0,s0,w0,z0⟩:=dtc.open_agg (l:=[.row (.agg [.row (.int .i64),.str]),.int .i64,.int .i64,.row (.int .i64),.int .i64]) Tryz.underlying26 (dtc.fit_agg Tryz.underlying26 (by kernel_rfl) (dtc.fits_cons (by kernel_rfl) (dtc.fit_row Tryz.underlying23 (dtc.fit_agg Tryz.underlying90 (by kernel_rfl) (dtc.fits_cons (by kernel_rfl) (dtc.fit_row Tryz.underlying84 (dtc.fit_int Tryz.underlying3 (by kernel_rfl)) (by kernel_rfl) (by kernel_rfl)) (dtc.fits_cons (by kernel_rfl) (dtc.fit_str Tryz.underlying9 (by kernel_rfl)) dtc.fits_nil))) (by kernel_rfl) (by kernel_rfl)) (dtc.fits_cons (by kernel_rfl) (dtc.fit_int Tryz.underlying2 (by kernel_rfl)) (dtc.fits_cons (by kernel_rfl) (dtc.fit_int Tryz.underlying2 (by kernel_rfl)) (dtc.fits_cons (by kernel_rfl) (dtc.fit_row Tryz.underlying24 (dtc.fit_int Tryz.underlying2 (by kernel_rfl)) (by kernel_rfl) (by kernel_rfl)) (dtc.fits_cons (by kernel_rfl) (dtc.fit_int Tryz.underlying3 (by kernel_rfl)) dtc.fits_nil)))))) (hval 0 26 v0 rfl rfl) h0
  have y0:=z0 (dtc.each_fit hsz (j:=0) rfl rfl)
  have cn0:cl0.length=5:=by simpa[dtc.szs,dtc.Sh.sz] using cn0
  obtain⟨c0_0,c0_1,c0_2,c0_3,c0_4,ecl0⟩:=cells5 cn0
  subst ecl0
  clear hA0 hval0
  have hT:txc.Tabs W:=txc.tabs_of hL
  refine(walk x0 c0_0 c0_1 c0_2 c0_3 c0_4 W s0 w0 y0 hT).mono fun e W' ⟨he,bel⟩=>?_
  subst he
  exact⟨_,rfl,_,_,_,[],_,[],hW',trodAll_mk1 (shut_bool Tryz.underlying4 _),(trodAll_cons_mk (Below.trod laidOut (by kernel_rfl) (of_decide_eq_true (by kernel_rfl)) k0 bel lt0) trodAll_mk0),rfl,bel.frame _,fun h=>by cases h⟩

theorem over:Rows.crlsPutRow.holds Tryz.pinned (OpenSpec.ofChange Rows.crlsPutSpec):=
  OpenClaim.holds_of_cond 3 Tryz.f3 rfl rfl rfl rfl rfl rfl rfl ⟨rfl,rfl,rfl,rfl,rfl⟩ rfl rfl rfl rfl rfl (by kernel_rfl) Tryz.func3 (by kernel_rfl)
    (of_decide_eq_true (by kernel_rfl)) (by unfold Func.isWrapper;first | (rw[if_pos (by decide+kernel)];kernel_rfl) | (rw[if_neg (by decide+kernel)];exact⟨rfl,rfl⟩))
    (fun os started H enc _ F=>by rw[OpenClaim.pre_eq_preRow];exact lifted os started H enc F)

theorem plain (f:FuncId)(fn:Func)(hf:Tryz.pinned.checked.prog.funcNamed "warder/warderlaw12.CrlsPut" =some f)(hfn:Tryz.pinned.checked.prog.funcs[f]? =some fn):
    true=Tryz.pinned.checked.prog.looks []∧∀(j:Nat) t,fn.params[j]? =some t→Tryz.pinned.checked.prog.wantsStandIn t=false:=by
  obtain rfl:f=3:=Option.some.inj ((show Tryz.prog.funcNamed "warder/warderlaw12.CrlsPut" =some 3 by kernel_rfl).symm.trans hf) |>.symm
  obtain rfl:fn=Tryz.f3:=(Option.some.inj (Tryz.func3.symm.trans hfn)).symm
  refine⟨by kernel_rfl,fun j t ht=>?_⟩
  rw[Tryz.params3] at ht
  match j,ht with
    |0,ht=>obtain rfl:t=26:=(Option.some.inj ht).symm;exact(show Tryz.prog.wantsStandIn 26=false by kernel_rfl)
    |j+1,ht=>simp at ht

theorem proved:Rows.CrlsPutCardSaid:=
  Claim7.holds_tied_plain_at .later [] _ _ _ _ over (fun _ h=>by cases h) (by kernel_rfl) (fun _ h=>by cases h) crlsPut_row_tie rfl ⟨rfl,rfl⟩ (by kernel_rfl) rfl plain (by kernel_rfl)
#print axioms proved
end Go.Proofs.YtconbejjagcnkaaGreatDoor.crlsPut
