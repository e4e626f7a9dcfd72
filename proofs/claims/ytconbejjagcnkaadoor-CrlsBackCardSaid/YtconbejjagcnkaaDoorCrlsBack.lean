/- The law CrlsBack of warderlaw12 answers true for any list and any bytes, and leaves its arguments as they were; no condition but that the library's two tables are as its text lays them. -/
import Derived.Test.YtconbejjagcnkaaDoorCards
import Derived.Test.YtconbejjagcnkaaDoorTie
import Derived.WalkKit
import Derived.ProofKit
import Derived.OpenShut
import Derived.ChangeOld
import Derived.Below
import Derived.SizedLaws
import Derived.Test.YtconbejjagcnkaaDoorKb
import Derived.Test.YtconbejjagcnkaaDoorXc
import Derived.Test.YtconbejjagcnkaaDoorWj
namespace Go.Proofs.YtconbejjagcnkaaDoor.crlsBack
open Go.ChangeShapes Go.WideShapes Go.ChangeAt Go.RowKit
set_option linter.unusedVariables false

theorem own:ownKnob Tryd.prog.godebug=none:=by kernel_rfl
theorem laidOut:laidOutB Tryd.prog=true:=by kernel_rfl

open Go.Proofs.YtconbejjagcnkaaDoor Go.Proofs.YtconbejjagcnkaaDoor.intm Go.Proofs.YtconbejjagcnkaaDoor.tlvc Go.Proofs.YtconbejjagcnkaaDoor.tlvd Go.Proofs.YtconbejjagcnkaaDoor.ndc Go.Proofs.YtconbejjagcnkaaDoor.txc Go.Proofs.YtconbejjagcnkaaDoor.intc Go.Proofs.YtconbejjagcnkaaDoor.vtc Go.Proofs.YtconbejjagcnkaaDoor.nmc
theorem cells5 {l:List Value}(h:l.length=5): ∃a0 a1 a2 a3 a4,l=[a0,a1,a2,a3,a4]:=by
  match l,h with
  | [a0,a1,a2,a3,a4],_=>exact⟨a0,a1,a2,a3,a4,rfl⟩

set_option maxRecDepth 100000 in
set_option maxHeartbeats 32000000 in
theorem walk (x0:List dtc.Dt)(c0_0 c0_1 c0_2 c0_3 c0_4:Value)(a1:Option Addr)(len1 cap1:Nat)(x1:List Int)(w:World)(s0:dtc.IsShs [.row (.agg [.row (.int .i64),.str]),.int .i64,.int .i64,.row (.int .i64),.int .i64] x0)(w0:dtc.LiesAll (fun _=>True) w x0 [c0_0,c0_1,c0_2,c0_3,c0_4])(y0:dtc.fitDts x0)(w1:tlvc.Bys w a1 len1 x1)(l1:len1≤cap1)(r1:cap1≤140737488351232)(hT:txc.Tabs w):
    Calls Tryd.prog 3 #[.agg #[c0_0,c0_1,c0_2,c0_3,c0_4],.slice a1 len1 cap1] w fun e w'=>e=.returned (.bool true)∧Below w.heap.size w w':=by
 obtain⟨c,hx⟩:=cr_of s0 w0 y0
 obtain⟨A0,m0,k0,b1,b2,A3,m3,k3,b4,rfl,rfl,rfl,rfl,rfl⟩:=hx.shape
 obtain⟨W0,hW0⟩:=nm_ (w.alloc (.cells #[.slice A0 m0 k0,.int .i64 b1,.int .i64 b2,.slice A3 m3 k3,.int .i64 b4] 26))
 have hb0:Below w.heap.size w W0:=by rw[←hW0];exact below_new _ _
 have v0:W0.heap[w.heap.size]? =some (.cells #[.slice A0 m0 k0,.int .i64 b1,.int .i64 b2,.slice A3 m3 k3,.int .i64 b4] 26):=by rw[←hW0];exact heap_new_ _ _
 have hbw:=fun W (hW:Below W0.heap.size W0 W)=>below_then hb0 hW (lr_ _)
 have HBW:=hd_ hbw
 have HBK:=hd_ (fun W (hW:Below W0.heap.size W0 W)=>(hW.block _ (Array.getElem?_eq_some_iff.1 v0).1).trans v0)
 have HTT:=hd_ (fun W hW=>hT.below (hbw W hW))
 have HXX:=hd_ (fun W (hW:Below W0.heap.size W0 W)=>hx.below (hbw W hW))
 have HHD:=hd_ (head12_any W0 (hT.below hb0))
 obtain⟨P,hP⟩:=nm_ (putL c)
 have hput:=fun W (hW:Below W0.heap.size W0 W)=>putL_any _ c _ _ _ _ _ W (HXX.out W hW) (HTT.out W hW)
 rw[hP] at hput
 have HPUT:=hd_ hput
 have HP:=hd_ hP
 obtain⟨⟨G1,G2⟩,hG⟩:=nm_ (resL x1)
 have hget:=fun W (hW:Below W0.heap.size W0 W)=>getL_any a1 len1 cap1 x1 W (w1.below (hbw W hW)) l1 (by unfold maxLen;omega) (HTT.out W hW)
 rw[hG] at hget
 have HGET:=hd_ hget
 have HG:=hd_ hG
 have HB1:=hd_ w1
 clear hput hP hget hG hbw v0 hb0 hT hx w1
 go_enter Tryd.func3,Tryd.ntmps3
 go_wp2_with fail
 refine HHD.out.mono ?_
 rintro e wa ⟨rfl,hba⟩
 have HA:=hd_ hba
 obtain⟨u0,u1,u2,u3,u4⟩:=box5 (HBK.out wa hba)
 have HC:=hd_ (HPUT.out wa hba)
 clear hba HHD HPUT hW0
 go_wp2_with fail
 clear u0 u1 u2 u3 u4
 refine HC.out.mono ?_
 rintro e wb ⟨hbb,hpost⟩
 have hb:=below_then HA.out hbb (lr_ _)
 clear hbb HC HA
 cases P with
 |no er=>
  have hne:=putL_ne HP.out
  obtain rfl:=hpost
  have HC:=hd_ (HGET.out _ hb)
  have HA:=hd_ hb
  clear hb
  go_wp2_with fail
  refine HC.out.mono ?_
  rintro e wf ⟨hbf,hpost⟩
  have hb:=below_then HA.out hbf (lr_ _)
  clear hbf HC HA
  match G2,hpost,HG with
  |none,hpost,HG=>
   have hpost:e=_:=hpost
   subst hpost
   have hne:G1≠0:=resL_ne HG.out
   have HE:=hd_ (HBW.out _ (below_then hb (below_new wf (.cells #[.slice none 0 0,.int .i64 0,.int .i64 0,.slice none 0 0,.int .i64 0] 26)) (lr_ _)))
   clear hb
   go_wp2
   go_ret
   exact⟨rfl,HE.out⟩
  |some d,hpost,HG=>
   obtain⟨c0,c1,c2,c3,c4,rfl,hy⟩:=hpost
   obtain⟨E0,e0,i0,q1,q2,E3,e3,i3,q4,rfl,rfl,rfl,rfl,rfl⟩:=hy.shape
   obtain⟨Wg,hWg⟩:=nm_ (wf.alloc (.cells #[.slice E0 e0 i0,.int .i64 q1,.int .i64 q2,.slice E3 e3 i3,.int .i64 q4] 26))
   have hbg:Below wf.heap.size wf Wg:=by rw[←hWg];exact below_new _ _
   have vg:Wg.heap[wf.heap.size]? =some (.cells #[.slice E0 e0 i0,.int .i64 q1,.int .i64 q2,.slice E3 e3 i3,.int .i64 q4] 26):=by rw[←hWg];exact heap_new_ _ _
   have hb:=below_then hb hbg (lr_ _)
   obtain⟨t0,t1,t2,t3,t4⟩:=box5 vg
   have hp:=putL_any _ d _ _ _ _ _ Wg (hy.below hbg) (HTT.out _ hb)
   obtain⟨rfl,hpd⟩:=resL_some HG.out
   rw[hpd] at hp
   have HC:=hd_ hp
   have HA:=hd_ hb
   clear hy hbg vg hb hp hpd
   go_wp2_with fail
   clear t0 t1 t2 t3 t4
   refine HC.out.mono ?_
   rintro e wh ⟨hbh,D2,dk2,rfl,hby2,⟨hd3,hd4⟩,_⟩
   have hb:=below_then HA.out hbh (lr_ _)
   have hxl:x1.length=len1:=HB1.out.1
   rw[hxl] at hby2 hd3⊢
   have k1:=intc.str_now hby2 dk2
   have k2:=intc.str_now (HB1.out.below (HBW.out _ hb)) cap1
   have HE:=hd_ (HBW.out _ hb)
   clear hb hbh hby2 hd3 hd4 hxl HC HA
   go_wp2
   go_ret
   exact⟨rfl,HE.out⟩
 |ok bs=>
  obtain⟨D,dk,rfl,hby,⟨hd1,hd2⟩,_⟩:=hpost
  have hg1:=getL_any D bs.length dk bs wb hby hd1 hd2 (HTT.out _ hb)
  rw[resL_back HP.out] at hg1
  obtain⟨lb,hlb⟩:=nm_ bs.length
  rw[hlb] at hg1⊢
  have HC:=hd_ hg1
  have HA:=hd_ hb
  clear hby hd1 hd2 hg1 hb hlb
  go_wp2_with fail
  refine HC.out.mono ?_
  rintro e wc ⟨hbc,c0,c1,c2,c3,c4,rfl,hy⟩
  obtain⟨E0,e0,i0,q1,q2,E3,e3,i3,q4,rfl,rfl,rfl,rfl,rfl⟩:=hy.shape
  obtain⟨Wd,hWd⟩:=nm_ (wc.alloc (.cells #[.slice E0 e0 i0,.int .i64 q1,.int .i64 q2,.slice E3 e3 i3,.int .i64 q4] 26))
  have hbd:Below wc.heap.size wc Wd:=by rw[←hWd];exact below_new _ _
  have vd:Wd.heap[wc.heap.size]? =some (.cells #[.slice E0 e0 i0,.int .i64 q1,.int .i64 q2,.slice E3 e3 i3,.int .i64 q4] 26):=by rw[←hWd];exact heap_new_ _ _
  have hb:=below_then (below_then HA.out hbc (lr_ _)) hbd (lr_ _)
  obtain⟨u0,u1,u2,u3,u4⟩:=box5 (HBK.out Wd hb)
  obtain⟨t0,t1,t2,t3,t4⟩:=box5 vd
  have HC2:=hd_ (rsameL_self _ _ c _ _ _ _ _ _ _ _ _ _ Wd (HXX.out _ hb) (hy.below hbd))
  have HA:=hd_ hb
  clear hbc hy hbd vd hb HC
  go_wp2_with fail
  clear u0 u1 u2 u3 u4 t0 t1 t2 t3 t4
  refine HC2.out.mono ?_
  rintro e we ⟨rfl,hbe⟩
  have hb:=below_then HA.out hbe (lr_ _)
  clear hbe HC2 HA hWd
  have HC:=hd_ (HGET.out _ hb)
  have HA:=hd_ hb
  clear hb
  go_wp2_with fail
  refine HC.out.mono ?_
  rintro e wf ⟨hbf,hpost⟩
  have hb:=below_then HA.out hbf (lr_ _)
  clear hbf HC HA
  match G2,hpost,HG with
  |none,hpost,HG=>
   have hpost:e=_:=hpost
   subst hpost
   have hne:G1≠0:=resL_ne HG.out
   have HE:=hd_ (HBW.out _ (below_then hb (below_new wf (.cells #[.slice none 0 0,.int .i64 0,.int .i64 0,.slice none 0 0,.int .i64 0] 26)) (lr_ _)))
   clear hb
   go_wp2
   go_ret
   exact⟨rfl,HE.out⟩
  |some d,hpost,HG=>
   obtain⟨c0,c1,c2,c3,c4,rfl,hy⟩:=hpost
   obtain⟨E0,e0,i0,q1,q2,E3,e3,i3,q4,rfl,rfl,rfl,rfl,rfl⟩:=hy.shape
   obtain⟨Wg,hWg⟩:=nm_ (wf.alloc (.cells #[.slice E0 e0 i0,.int .i64 q1,.int .i64 q2,.slice E3 e3 i3,.int .i64 q4] 26))
   have hbg:Below wf.heap.size wf Wg:=by rw[←hWg];exact below_new _ _
   have vg:Wg.heap[wf.heap.size]? =some (.cells #[.slice E0 e0 i0,.int .i64 q1,.int .i64 q2,.slice E3 e3 i3,.int .i64 q4] 26):=by rw[←hWg];exact heap_new_ _ _
   have hb:=below_then hb hbg (lr_ _)
   obtain⟨t0,t1,t2,t3,t4⟩:=box5 vg
   have hp:=putL_any _ d _ _ _ _ _ Wg (hy.below hbg) (HTT.out _ hb)
   obtain⟨rfl,hpd⟩:=resL_some HG.out
   rw[hpd] at hp
   have HC:=hd_ hp
   have HA:=hd_ hb
   clear hy hbg vg hb hp hpd
   go_wp2_with fail
   clear t0 t1 t2 t3 t4
   refine HC.out.mono ?_
   rintro e wh ⟨hbh,D2,dk2,rfl,hby2,⟨hd3,hd4⟩,_⟩
   have hb:=below_then HA.out hbh (lr_ _)
   have hxl:x1.length=len1:=HB1.out.1
   rw[hxl] at hby2 hd3⊢
   have k1:=intc.str_now hby2 dk2
   have k2:=intc.str_now (HB1.out.below (HBW.out _ hb)) cap1
   have HE:=hd_ (HBW.out _ hb)
   clear hb hbh hby2 hd3 hd4 hxl HC HA
   go_wp2
   go_ret
   exact⟨rfl,HE.out⟩

theorem reads (os:Os){H:Type}(enc:TypeId × Value→H): ∃places,DataW.whole enc Tryd.prog ((txc.laidWorld os).forCall (fun _ _=>0) ⟨#[],#[.agg #[.slice none 0 0,.int .i64 0,.int .i64 0,.slice none 0 0,.int .i64 0],.slice none 0 0],[]⟩).memory Tryd.f3.params.toList Rows.crlsBackSpec.vars false (#[.agg #[.slice none 0 0,.int .i64 0,.int .i64 0,.slice none 0 0,.int .i64 0],.slice none 0 0]:Array Value).toList 8=some ([.agg [.nil,.lit (.int .i64 0),.lit (.int .i64 0),.nil,.lit (.int .i64 0)],.nil],[],places):=
  ⟨[],by kernel_rfl⟩
set_option maxRecDepth 100000 in
theorem lifted (os:Os)(started:os.Started)(H:Type)(enc:TypeId × Value→H)(F:Stop.Interp):
    ReturnsInHanded {} Tryd.checked os 3 .any ((OpenSpec.ofChange Rows.crlsBackSpec).preRow enc Tryd.prog Tryd.f3 Rows.crlsBackRow.domain false Rows.crlsBackRow.laid) (((OpenSpec.ofChange Rows.crlsBackSpec).at F).post enc Tryd.prog Tryd.f3 false true false false):=by
  obtain⟨places,hx⟩:=reads os enc
  refine returnsInHanded_of_row (C:=Tryd.checked) (s:=(OpenSpec.ofChange Rows.crlsBackSpec)) own started (by kernel_rfl) Tryd.func3
    (witness_row_at (enc:=enc) (C:=Tryd.checked) false (txc.laidWorld os) #[.agg #[.slice none 0 0,.int .i64 0,.int .i64 0,.slice none 0 0,.int .i64 0],.slice none 0 0] rfl (by kernel_rfl) (by kernel_rfl) (by kernel_rfl)
      (OpenSpec.preRow_of_cond 8 hx (by kernel_rfl) (fun k hk=>by cases hk) (by kernel_rfl) (txc.laid_met os _))) ?_
  intro W base args ds gs before hval0 hW hcnd hcond hsz0 hL _ _
  have hval: ∀(j:Nat) t v,Tryd.f3.params[j]? =some t→args[j]? =some v→Value.okWide Tryd.prog W .any base t v:=hval0
  have hW':=hW
  obtain⟨p,q,hA0,hV,rfl,hfz,hnd⟩:=hW
  have hA:DataW.TrodAll enc Tryd.prog W 0 (fun _=>true) true Tryd.f3.params.toList args.toList ds p:=hA0
  have hsz:(DataW.weightsEach Tryd.prog (Tryd.f3.params.toList++(OpenSpec.ofChange Rows.crlsBackSpec).bare.plain.varTypes Tryd.prog) (ds++gs)).all (· ≤reachBytes)=true:=hsz0
  rw[Tryd.params3] at hA hval hsz
  obtain⟨v0,vs0,d0,ds0,p0,q0,hargs,rfl,rfl,h0,r_0⟩:=trodAll_cons hA
  obtain⟨v1,vs1,d1,ds1,p1,q1,rfl,rfl,rfl,h1,r_1⟩:=trodAll_cons r_0
  obtain⟨rfl,rfl,rfl⟩:=trodAll_nil r_1
  obtain rfl:args=#[v0,v1]:=by cases args;simp_all
  obtain⟨rfl,rfl⟩:=trodVars_none hV
  have k0:=h0
  have lt0: ∀x∈p0,x.block<W.heap.size:=by obtain⟨m,hm⟩:=k0;exact DataW.trod_lt m _ _ _ hm
  obtain⟨cl0,x0,rfl,cn0,s0,w0,z0⟩:=dtc.open_agg (l:=[.row (.agg [.row (.int .i64),.str]),.int .i64,.int .i64,.row (.int .i64),.int .i64]) Tryd.underlying26 (dtc.fit_agg Tryd.underlying26 (by kernel_rfl) (dtc.fits_cons (by kernel_rfl) (dtc.fit_row Tryd.underlying23 (dtc.fit_agg Tryd.underlying73 (by kernel_rfl) (dtc.fits_cons (by kernel_rfl) (dtc.fit_row Tryd.underlying71 (dtc.fit_int Tryd.underlying3 (by kernel_rfl)) (by kernel_rfl) (by kernel_rfl)) (dtc.fits_cons (by kernel_rfl) (dtc.fit_str Tryd.underlying9 (by kernel_rfl)) dtc.fits_nil))) (by kernel_rfl) (by kernel_rfl)) (dtc.fits_cons (by kernel_rfl) (dtc.fit_int Tryd.underlying2 (by kernel_rfl)) (dtc.fits_cons (by kernel_rfl) (dtc.fit_int Tryd.underlying2 (by kernel_rfl)) (dtc.fits_cons (by kernel_rfl) (dtc.fit_row Tryd.underlying24 (dtc.fit_int Tryd.underlying2 (by kernel_rfl)) (by kernel_rfl) (by kernel_rfl)) (dtc.fits_cons (by kernel_rfl) (dtc.fit_int Tryd.underlying3 (by kernel_rfl)) dtc.fits_nil)))))) (hval 0 26 v0 rfl rfl) h0
  have y0:=z0 (dtc.each_fit hsz (j:=0) rfl rfl)
  have cn0:cl0.length=5:=by simpa[dtc.szs,dtc.Sh.sz] using cn0
  obtain⟨c0_0,c0_1,c0_2,c0_3,c0_4,ecl0⟩:=cells5 cn0
  subst ecl0
  obtain⟨a1,len1,cap1,rfl⟩:=okWide_slice Tryd.underlying27 (hval 1 27 v1 rfl rfl)
  have k1:=h1
  have lt1: ∀x∈p1,x.block<W.heap.size:=by obtain⟨m,hm⟩:=k1;exact DataW.trod_lt m _ _ _ hm
  obtain⟨x1,w1,l1,m1,s1⟩:=tlvc.open_bys Tryd.underlying27 Tryd.underlying5 (by kernel_rfl) h1
  have r1:=tlvc.spots_reach hsz s1 (j:=1) rfl rfl Tryd.underlying27 (of_decide_eq_true (by kernel_rfl))
  clear hA0 hval0
  have hT:txc.Tabs W:=txc.tabs_of hL
  refine(walk x0 c0_0 c0_1 c0_2 c0_3 c0_4 a1 len1 cap1 x1 W s0 w0 y0 w1 l1 r1 hT).mono fun e W' ⟨he,bel⟩=>?_
  subst he
  exact⟨_,rfl,_,_,_,[],_,[],hW',trodAll_mk1 (shut_bool Tryd.underlying4 _),(trodAll_cons_mk (Below.trod laidOut (by kernel_rfl) (of_decide_eq_true (by kernel_rfl)) k0 bel lt0) (trodAll_cons_mk (Below.trod laidOut (by kernel_rfl) (of_decide_eq_true (by kernel_rfl)) k1 bel lt1) trodAll_mk0)),rfl,bel.frame _,fun h=>by cases h⟩

theorem over:Rows.crlsBackRow.holds Tryd.pinned (OpenSpec.ofChange Rows.crlsBackSpec):=
  OpenClaim.holds_of_cond 3 Tryd.f3 rfl rfl rfl rfl rfl rfl rfl ⟨rfl,rfl,rfl,rfl,rfl⟩ rfl rfl rfl rfl rfl (by kernel_rfl) Tryd.func3 (by kernel_rfl)
    (of_decide_eq_true (by kernel_rfl)) (by unfold Func.isWrapper;first | (rw[if_pos (by decide+kernel)];kernel_rfl) | (rw[if_neg (by decide+kernel)];exact⟨rfl,rfl⟩))
    (fun os started H enc _ F=>by rw[OpenClaim.pre_eq_preRow];exact lifted os started H enc F)

theorem plain (f:FuncId)(fn:Func)(hf:Tryd.pinned.checked.prog.funcNamed "warder/warderlaw12.CrlsBack" =some f)(hfn:Tryd.pinned.checked.prog.funcs[f]? =some fn):
    true=Tryd.pinned.checked.prog.looks []∧∀(j:Nat) t,fn.params[j]? =some t→Tryd.pinned.checked.prog.wantsStandIn t=false:=by
  obtain rfl:f=3:=Option.some.inj ((show Tryd.prog.funcNamed "warder/warderlaw12.CrlsBack" =some 3 by kernel_rfl).symm.trans hf) |>.symm
  obtain rfl:fn=Tryd.f3:=(Option.some.inj (Tryd.func3.symm.trans hfn)).symm
  refine⟨by kernel_rfl,fun j t ht=>?_⟩
  rw[Tryd.params3] at ht
  match j,ht with
    |0,ht=>obtain rfl:t=26:=(Option.some.inj ht).symm;exact(show Tryd.prog.wantsStandIn 26=false by kernel_rfl)
    |1,ht=>obtain rfl:t=27:=(Option.some.inj ht).symm;exact(show Tryd.prog.wantsStandIn 27=false by kernel_rfl)
    |j+2,ht=>simp at ht

theorem proved:Rows.CrlsBackCardSaid:=
  Claim7.holds_tied_plain_at .later [] _ _ _ _ over (fun _ h=>by cases h) (by kernel_rfl) (fun _ h=>by cases h) crlsBack_row_tie rfl ⟨rfl,rfl⟩ (by kernel_rfl) rfl plain (by kernel_rfl)
#print axioms proved
end Go.Proofs.YtconbejjagcnkaaDoor.crlsBack
