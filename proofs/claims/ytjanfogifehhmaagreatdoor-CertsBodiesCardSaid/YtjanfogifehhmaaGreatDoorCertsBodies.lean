/- The law CertsBodies of warderlaw11 answers true for any two certificates, and leaves its arguments as they were; no condition but that the library's two tables are as its text lays them. -/
import Derived.Test.YtjanfogifehhmaaGreatDoorCards
import Derived.Test.YtjanfogifehhmaaGreatDoorTie
import Derived.WalkKit
import Derived.ProofKit
import Derived.OpenShut
import Derived.ChangeOld
import Derived.Below
import Derived.SizedLaws
import Derived.Test.YtjanfogifehhmaaGreatDoorKb
import Derived.Test.YtjanfogifehhmaaGreatDoorXc
import Derived.Test.YtjanfogifehhmaaGreatDoorQ2
namespace Go.Proofs.YtjanfogifehhmaaGreatDoor.certsBodies
open Go.ChangeShapes Go.WideShapes Go.ChangeAt Go.RowKit
set_option linter.unusedVariables false

theorem own:ownKnob Tryz.prog.godebug=none:=by kernel_rfl
theorem laidOut:laidOutB Tryz.prog=true:=by kernel_rfl

open Go.Proofs.YtjanfogifehhmaaGreatDoor Go.Proofs.YtjanfogifehhmaaGreatDoor.tlvc Go.Proofs.YtjanfogifehhmaaGreatDoor.tlvd Go.Proofs.YtjanfogifehhmaaGreatDoor.ndc Go.Proofs.YtjanfogifehhmaaGreatDoor.txc Go.Proofs.YtjanfogifehhmaaGreatDoor.intc Go.Proofs.YtjanfogifehhmaaGreatDoor.vtc Go.Proofs.YtjanfogifehhmaaGreatDoor.nmc
theorem cells16 {l:List Value}(h:l.length=16): ∃a0 a1 a2 a3 a4 a5 a6 a7 a8 a9 a10 a11 a12 a13 a14 a15,l=[a0,a1,a2,a3,a4,a5,a6,a7,a8,a9,a10,a11,a12,a13,a14,a15]:=by
  match l,h with
  | [a0,a1,a2,a3,a4,a5,a6,a7,a8,a9,a10,a11,a12,a13,a14,a15],_=>exact⟨a0,a1,a2,a3,a4,a5,a6,a7,a8,a9,a10,a11,a12,a13,a14,a15,rfl⟩

set_option maxRecDepth 100000 in
set_option maxHeartbeats 32000000 in
theorem walk (x0:List dtc.Dt)(c0_0 c0_1 c0_2 c0_3 c0_4 c0_5 c0_6 c0_7 c0_8 c0_9 c0_10 c0_11 c0_12 c0_13 c0_14 c0_15:Value)(x1:List dtc.Dt)(c1_0 c1_1 c1_2 c1_3 c1_4 c1_5 c1_6 c1_7 c1_8 c1_9 c1_10 c1_11 c1_12 c1_13 c1_14 c1_15:Value)(w:World)(s0:dtc.IsShs [.int .i64,.row (.agg [.row (.int .i64),.str]),.int .i64,.int .i64,.row (.agg [.row (.int .i64),.str]),.int .i64,.agg [.bool,.bool,.int .i64,.int .u16,.row (.row (.int .i64)),.row (.agg [.str,.row (.str)]),.row (.row (.agg [.row (.int .i64),.str])),.row (.row (.agg [.row (.int .i64),.str])),.row (.agg [.row (.int .i64),.bool,.bys])],.int .i64] x0)(w0:dtc.LiesAll (fun _=>True) w x0 [c0_0,c0_1,c0_2,c0_3,c0_4,c0_5,c0_6,c0_7,c0_8,c0_9,c0_10,c0_11,c0_12,c0_13,c0_14,c0_15])(y0:dtc.fitDts x0)(s1:dtc.IsShs [.int .i64,.row (.agg [.row (.int .i64),.str]),.int .i64,.int .i64,.row (.agg [.row (.int .i64),.str]),.int .i64,.agg [.bool,.bool,.int .i64,.int .u16,.row (.row (.int .i64)),.row (.agg [.str,.row (.str)]),.row (.row (.agg [.row (.int .i64),.str])),.row (.row (.agg [.row (.int .i64),.str])),.row (.agg [.row (.int .i64),.bool,.bys])],.int .i64] x1)(w1:dtc.LiesAll (fun _=>True) w x1 [c1_0,c1_1,c1_2,c1_3,c1_4,c1_5,c1_6,c1_7,c1_8,c1_9,c1_10,c1_11,c1_12,c1_13,c1_14,c1_15])(y1:dtc.fitDts x1)(hT:txc.Tabs w):
    Calls Tryz.prog 6 #[.agg #[c0_0,c0_1,c0_2,c0_3,c0_4,c0_5,c0_6,c0_7,c0_8,c0_9,c0_10,c0_11,c0_12,c0_13,c0_14,c0_15],.agg #[c1_0,c1_1,c1_2,c1_3,c1_4,c1_5,c1_6,c1_7,c1_8,c1_9,c1_10,c1_11,c1_12,c1_13,c1_14,c1_15]] w fun e w'=>e=.returned (.bool true)∧Below w.heap.size w w':=by
 obtain⟨c,hx⟩:=ce_of s0 w0 y0
 obtain⟨d,hy⟩:=ce_of s1 w1 y1
 obtain⟨a0,A1,l1',i1,a2,a3,A4,l4,i4,a5,q0,q1,q2,q3,B4,m4,j4,B5,m5,j5,B6,m6,j6,B7,m7,j7,B8,m8,j8,a7,rfl,rfl,rfl,rfl,rfl,rfl,rfl,rfl,rfl,rfl,rfl,rfl,rfl,rfl,rfl,rfl⟩:=ceC_shape hx
 obtain⟨b0,E1,e1,h1,b2,b3,E4,e4,h4,b5,p0,p1,p2,p3,F4,n4,k4,F5,n5,k5,F6,n6,k6,F7,n7,k7,F8,n8,k8,b7,rfl,rfl,rfl,rfl,rfl,rfl,rfl,rfl,rfl,rfl,rfl,rfl,rfl,rfl,rfl,rfl⟩:=ceC_shape hy
 exact bodies_any w hx hy hT

theorem reads (os:Os){H:Type}(enc:TypeId × Value→H): ∃places,DataW.whole enc Tryz.prog ((txc.laidWorld os).forCall (fun _ _=>0) ⟨#[],#[.agg #[.int .i64 0,.slice none 0 0,.int .i64 0,.int .i64 0,.slice none 0 0,.int .i64 0,.bool false,.bool false,.int .i64 0,.int .u16 0,.slice none 0 0,.slice none 0 0,.slice none 0 0,.slice none 0 0,.slice none 0 0,.int .i64 0],.agg #[.int .i64 0,.slice none 0 0,.int .i64 0,.int .i64 0,.slice none 0 0,.int .i64 0,.bool false,.bool false,.int .i64 0,.int .u16 0,.slice none 0 0,.slice none 0 0,.slice none 0 0,.slice none 0 0,.slice none 0 0,.int .i64 0]],[]⟩).memory Tryz.f6.params.toList Rows.certsBodiesSpec.vars false (#[.agg #[.int .i64 0,.slice none 0 0,.int .i64 0,.int .i64 0,.slice none 0 0,.int .i64 0,.bool false,.bool false,.int .i64 0,.int .u16 0,.slice none 0 0,.slice none 0 0,.slice none 0 0,.slice none 0 0,.slice none 0 0,.int .i64 0],.agg #[.int .i64 0,.slice none 0 0,.int .i64 0,.int .i64 0,.slice none 0 0,.int .i64 0,.bool false,.bool false,.int .i64 0,.int .u16 0,.slice none 0 0,.slice none 0 0,.slice none 0 0,.slice none 0 0,.slice none 0 0,.int .i64 0]]:Array Value).toList 8=some ([.agg [.lit (.int .i64 0),.nil,.lit (.int .i64 0),.lit (.int .i64 0),.nil,.lit (.int .i64 0),.agg [.lit (.bool false),.lit (.bool false),.lit (.int .i64 0),.lit (.int .u16 0),.nil,.nil,.nil,.nil,.nil],.lit (.int .i64 0)],.agg [.lit (.int .i64 0),.nil,.lit (.int .i64 0),.lit (.int .i64 0),.nil,.lit (.int .i64 0),.agg [.lit (.bool false),.lit (.bool false),.lit (.int .i64 0),.lit (.int .u16 0),.nil,.nil,.nil,.nil,.nil],.lit (.int .i64 0)]],[],places):=
  ⟨[],by kernel_rfl⟩
set_option maxRecDepth 100000 in
theorem lifted (os:Os)(started:os.Started)(H:Type)(enc:TypeId × Value→H)(F:Stop.Interp):
    ReturnsInHanded {} Tryz.checked os 6 .any ((OpenSpec.ofChange Rows.certsBodiesSpec).preRow enc Tryz.prog Tryz.f6 Rows.certsBodiesRow.domain false Rows.certsBodiesRow.laid) (((OpenSpec.ofChange Rows.certsBodiesSpec).at F).post enc Tryz.prog Tryz.f6 false true false false):=by
  obtain⟨places,hx⟩:=reads os enc
  refine returnsInHanded_of_row (C:=Tryz.checked) (s:=(OpenSpec.ofChange Rows.certsBodiesSpec)) own started (by kernel_rfl) Tryz.func6
    (witness_row_at (enc:=enc) (C:=Tryz.checked) false (txc.laidWorld os) #[.agg #[.int .i64 0,.slice none 0 0,.int .i64 0,.int .i64 0,.slice none 0 0,.int .i64 0,.bool false,.bool false,.int .i64 0,.int .u16 0,.slice none 0 0,.slice none 0 0,.slice none 0 0,.slice none 0 0,.slice none 0 0,.int .i64 0],.agg #[.int .i64 0,.slice none 0 0,.int .i64 0,.int .i64 0,.slice none 0 0,.int .i64 0,.bool false,.bool false,.int .i64 0,.int .u16 0,.slice none 0 0,.slice none 0 0,.slice none 0 0,.slice none 0 0,.slice none 0 0,.int .i64 0]] rfl (by kernel_rfl) (by kernel_rfl) (by kernel_rfl)
      (OpenSpec.preRow_of_cond 8 hx (by kernel_rfl) (fun k hk=>by cases hk) (by kernel_rfl) (txc.laid_met os _))) ?_
  intro W base args ds gs before hval0 hW hcnd hcond hsz0 hL _ _
  have hval: ∀(j:Nat) t v,Tryz.f6.params[j]? =some t→args[j]? =some v→Value.okWide Tryz.prog W .any base t v:=hval0
  have hW':=hW
  obtain⟨p,q,hA0,hV,rfl,hfz,hnd⟩:=hW
  have hA:DataW.TrodAll enc Tryz.prog W 0 (fun _=>true) true Tryz.f6.params.toList args.toList ds p:=hA0
  have hsz:(DataW.weightsEach Tryz.prog (Tryz.f6.params.toList++(OpenSpec.ofChange Rows.certsBodiesSpec).bare.plain.varTypes Tryz.prog) (ds++gs)).all (· ≤reachBytes)=true:=hsz0
  rw[Tryz.params6] at hA hval hsz
  obtain⟨v0,vs0,d0,ds0,p0,q0,hargs,rfl,rfl,h0,r_0⟩:=trodAll_cons hA
  obtain⟨v1,vs1,d1,ds1,p1,q1,rfl,rfl,rfl,h1,r_1⟩:=trodAll_cons r_0
  obtain⟨rfl,rfl,rfl⟩:=trodAll_nil r_1
  obtain rfl:args=#[v0,v1]:=by cases args;simp_all
  obtain⟨rfl,rfl⟩:=trodVars_none hV
  have k0:=h0
  have lt0: ∀x∈p0,x.block<W.heap.size:=by obtain⟨m,hm⟩:=k0;exact DataW.trod_lt m _ _ _ hm
  obtain⟨cl0,x0,rfl,cn0,s0,w0,z0⟩:=dtc.open_agg (l:=[.int .i64,.row (.agg [.row (.int .i64),.str]),.int .i64,.int .i64,.row (.agg [.row (.int .i64),.str]),.int .i64,.agg [.bool,.bool,.int .i64,.int .u16,.row (.row (.int .i64)),.row (.agg [.str,.row (.str)]),.row (.row (.agg [.row (.int .i64),.str])),.row (.row (.agg [.row (.int .i64),.str])),.row (.agg [.row (.int .i64),.bool,.bys])],.int .i64]) Tryz.underlying32 (dtc.fit_agg Tryz.underlying32 (by kernel_rfl) (dtc.fits_cons (by kernel_rfl) (dtc.fit_int Tryz.underlying2 (by kernel_rfl)) (dtc.fits_cons (by kernel_rfl) (dtc.fit_row Tryz.underlying23 (dtc.fit_agg Tryz.underlying103 (by kernel_rfl) (dtc.fits_cons (by kernel_rfl) (dtc.fit_row Tryz.underlying101 (dtc.fit_int Tryz.underlying3 (by kernel_rfl)) (by kernel_rfl) (by kernel_rfl)) (dtc.fits_cons (by kernel_rfl) (dtc.fit_str Tryz.underlying9 (by kernel_rfl)) dtc.fits_nil))) (by kernel_rfl) (by kernel_rfl)) (dtc.fits_cons (by kernel_rfl) (dtc.fit_int Tryz.underlying2 (by kernel_rfl)) (dtc.fits_cons (by kernel_rfl) (dtc.fit_int Tryz.underlying2 (by kernel_rfl)) (dtc.fits_cons (by kernel_rfl) (dtc.fit_row Tryz.underlying23 (dtc.fit_agg Tryz.underlying103 (by kernel_rfl) (dtc.fits_cons (by kernel_rfl) (dtc.fit_row Tryz.underlying101 (dtc.fit_int Tryz.underlying3 (by kernel_rfl)) (by kernel_rfl) (by kernel_rfl)) (dtc.fits_cons (by kernel_rfl) (dtc.fit_str Tryz.underlying9 (by kernel_rfl)) dtc.fits_nil))) (by kernel_rfl) (by kernel_rfl)) (dtc.fits_cons (by kernel_rfl) (dtc.fit_int Tryz.underlying3 (by kernel_rfl)) (dtc.fits_cons (by kernel_rfl) (dtc.fit_agg Tryz.underlying30 (by kernel_rfl) (dtc.fits_cons (by kernel_rfl) (dtc.fit_bool Tryz.underlying4 (by kernel_rfl)) (dtc.fits_cons (by kernel_rfl) (dtc.fit_bool Tryz.underlying4 (by kernel_rfl)) (dtc.fits_cons (by kernel_rfl) (dtc.fit_int Tryz.underlying3 (by kernel_rfl)) (dtc.fits_cons (by kernel_rfl) (dtc.fit_int Tryz.underlying24 (by kernel_rfl)) (dtc.fits_cons (by kernel_rfl) (dtc.fit_row Tryz.underlying25 (dtc.fit_row Tryz.underlying101 (dtc.fit_int Tryz.underlying3 (by kernel_rfl)) (by kernel_rfl) (by kernel_rfl)) (by kernel_rfl) (by kernel_rfl)) (dtc.fits_cons (by kernel_rfl) (dtc.fit_row Tryz.underlying26 (dtc.fit_agg Tryz.underlying107 (by kernel_rfl) (dtc.fits_cons (by kernel_rfl) (dtc.fit_str Tryz.underlying9 (by kernel_rfl)) (dtc.fits_cons (by kernel_rfl) (dtc.fit_row Tryz.underlying105 (dtc.fit_str Tryz.underlying9 (by kernel_rfl)) (by kernel_rfl) (by kernel_rfl)) dtc.fits_nil))) (by kernel_rfl) (by kernel_rfl)) (dtc.fits_cons (by kernel_rfl) (dtc.fit_row Tryz.underlying27 (dtc.fit_row Tryz.underlying23 (dtc.fit_agg Tryz.underlying103 (by kernel_rfl) (dtc.fits_cons (by kernel_rfl) (dtc.fit_row Tryz.underlying101 (dtc.fit_int Tryz.underlying3 (by kernel_rfl)) (by kernel_rfl) (by kernel_rfl)) (dtc.fits_cons (by kernel_rfl) (dtc.fit_str Tryz.underlying9 (by kernel_rfl)) dtc.fits_nil))) (by kernel_rfl) (by kernel_rfl)) (by kernel_rfl) (by kernel_rfl)) (dtc.fits_cons (by kernel_rfl) (dtc.fit_row Tryz.underlying27 (dtc.fit_row Tryz.underlying23 (dtc.fit_agg Tryz.underlying103 (by kernel_rfl) (dtc.fits_cons (by kernel_rfl) (dtc.fit_row Tryz.underlying101 (dtc.fit_int Tryz.underlying3 (by kernel_rfl)) (by kernel_rfl) (by kernel_rfl)) (dtc.fits_cons (by kernel_rfl) (dtc.fit_str Tryz.underlying9 (by kernel_rfl)) dtc.fits_nil))) (by kernel_rfl) (by kernel_rfl)) (by kernel_rfl) (by kernel_rfl)) (dtc.fits_cons (by kernel_rfl) (dtc.fit_row Tryz.underlying28 (dtc.fit_agg Tryz.underlying109 (by kernel_rfl) (dtc.fits_cons (by kernel_rfl) (dtc.fit_row Tryz.underlying101 (dtc.fit_int Tryz.underlying3 (by kernel_rfl)) (by kernel_rfl) (by kernel_rfl)) (dtc.fits_cons (by kernel_rfl) (dtc.fit_bool Tryz.underlying4 (by kernel_rfl)) (dtc.fits_cons (by kernel_rfl) (dtc.fit_bys Tryz.underlying34 Tryz.underlying5 (by kernel_rfl) (by kernel_rfl) (by kernel_rfl)) dtc.fits_nil)))) (by kernel_rfl) (by kernel_rfl)) dtc.fits_nil)))))))))) (dtc.fits_cons (by kernel_rfl) (dtc.fit_int Tryz.underlying3 (by kernel_rfl)) dtc.fits_nil))))))))) (hval 0 32 v0 rfl rfl) h0
  have y0:=z0 (dtc.each_fit hsz (j:=0) rfl rfl)
  have cn0:cl0.length=16:=by simpa[dtc.szs,dtc.Sh.sz] using cn0
  obtain⟨c0_0,c0_1,c0_2,c0_3,c0_4,c0_5,c0_6,c0_7,c0_8,c0_9,c0_10,c0_11,c0_12,c0_13,c0_14,c0_15,ecl0⟩:=cells16 cn0
  subst ecl0
  have k1:=h1
  have lt1: ∀x∈p1,x.block<W.heap.size:=by obtain⟨m,hm⟩:=k1;exact DataW.trod_lt m _ _ _ hm
  obtain⟨cl1,x1,rfl,cn1,s1,w1,z1⟩:=dtc.open_agg (l:=[.int .i64,.row (.agg [.row (.int .i64),.str]),.int .i64,.int .i64,.row (.agg [.row (.int .i64),.str]),.int .i64,.agg [.bool,.bool,.int .i64,.int .u16,.row (.row (.int .i64)),.row (.agg [.str,.row (.str)]),.row (.row (.agg [.row (.int .i64),.str])),.row (.row (.agg [.row (.int .i64),.str])),.row (.agg [.row (.int .i64),.bool,.bys])],.int .i64]) Tryz.underlying32 (dtc.fit_agg Tryz.underlying32 (by kernel_rfl) (dtc.fits_cons (by kernel_rfl) (dtc.fit_int Tryz.underlying2 (by kernel_rfl)) (dtc.fits_cons (by kernel_rfl) (dtc.fit_row Tryz.underlying23 (dtc.fit_agg Tryz.underlying103 (by kernel_rfl) (dtc.fits_cons (by kernel_rfl) (dtc.fit_row Tryz.underlying101 (dtc.fit_int Tryz.underlying3 (by kernel_rfl)) (by kernel_rfl) (by kernel_rfl)) (dtc.fits_cons (by kernel_rfl) (dtc.fit_str Tryz.underlying9 (by kernel_rfl)) dtc.fits_nil))) (by kernel_rfl) (by kernel_rfl)) (dtc.fits_cons (by kernel_rfl) (dtc.fit_int Tryz.underlying2 (by kernel_rfl)) (dtc.fits_cons (by kernel_rfl) (dtc.fit_int Tryz.underlying2 (by kernel_rfl)) (dtc.fits_cons (by kernel_rfl) (dtc.fit_row Tryz.underlying23 (dtc.fit_agg Tryz.underlying103 (by kernel_rfl) (dtc.fits_cons (by kernel_rfl) (dtc.fit_row Tryz.underlying101 (dtc.fit_int Tryz.underlying3 (by kernel_rfl)) (by kernel_rfl) (by kernel_rfl)) (dtc.fits_cons (by kernel_rfl) (dtc.fit_str Tryz.underlying9 (by kernel_rfl)) dtc.fits_nil))) (by kernel_rfl) (by kernel_rfl)) (dtc.fits_cons (by kernel_rfl) (dtc.fit_int Tryz.underlying3 (by kernel_rfl)) (dtc.fits_cons (by kernel_rfl) (dtc.fit_agg Tryz.underlying30 (by kernel_rfl) (dtc.fits_cons (by kernel_rfl) (dtc.fit_bool Tryz.underlying4 (by kernel_rfl)) (dtc.fits_cons (by kernel_rfl) (dtc.fit_bool Tryz.underlying4 (by kernel_rfl)) (dtc.fits_cons (by kernel_rfl) (dtc.fit_int Tryz.underlying3 (by kernel_rfl)) (dtc.fits_cons (by kernel_rfl) (dtc.fit_int Tryz.underlying24 (by kernel_rfl)) (dtc.fits_cons (by kernel_rfl) (dtc.fit_row Tryz.underlying25 (dtc.fit_row Tryz.underlying101 (dtc.fit_int Tryz.underlying3 (by kernel_rfl)) (by kernel_rfl) (by kernel_rfl)) (by kernel_rfl) (by kernel_rfl)) (dtc.fits_cons (by kernel_rfl) (dtc.fit_row Tryz.underlying26 (dtc.fit_agg Tryz.underlying107 (by kernel_rfl) (dtc.fits_cons (by kernel_rfl) (dtc.fit_str Tryz.underlying9 (by kernel_rfl)) (dtc.fits_cons (by kernel_rfl) (dtc.fit_row Tryz.underlying105 (dtc.fit_str Tryz.underlying9 (by kernel_rfl)) (by kernel_rfl) (by kernel_rfl)) dtc.fits_nil))) (by kernel_rfl) (by kernel_rfl)) (dtc.fits_cons (by kernel_rfl) (dtc.fit_row Tryz.underlying27 (dtc.fit_row Tryz.underlying23 (dtc.fit_agg Tryz.underlying103 (by kernel_rfl) (dtc.fits_cons (by kernel_rfl) (dtc.fit_row Tryz.underlying101 (dtc.fit_int Tryz.underlying3 (by kernel_rfl)) (by kernel_rfl) (by kernel_rfl)) (dtc.fits_cons (by kernel_rfl) (dtc.fit_str Tryz.underlying9 (by kernel_rfl)) dtc.fits_nil))) (by kernel_rfl) (by kernel_rfl)) (by kernel_rfl) (by kernel_rfl)) (dtc.fits_cons (by kernel_rfl) (dtc.fit_row Tryz.underlying27 (dtc.fit_row Tryz.underlying23 (dtc.fit_agg Tryz.underlying103 (by kernel_rfl) (dtc.fits_cons (by kernel_rfl) (dtc.fit_row Tryz.underlying101 (dtc.fit_int Tryz.underlying3 (by kernel_rfl)) (by kernel_rfl) (by kernel_rfl)) (dtc.fits_cons (by kernel_rfl) (dtc.fit_str Tryz.underlying9 (by kernel_rfl)) dtc.fits_nil))) (by kernel_rfl) (by kernel_rfl)) (by kernel_rfl) (by kernel_rfl)) (dtc.fits_cons (by kernel_rfl) (dtc.fit_row Tryz.underlying28 (dtc.fit_agg Tryz.underlying109 (by kernel_rfl) (dtc.fits_cons (by kernel_rfl) (dtc.fit_row Tryz.underlying101 (dtc.fit_int Tryz.underlying3 (by kernel_rfl)) (by kernel_rfl) (by kernel_rfl)) (dtc.fits_cons (by kernel_rfl) (dtc.fit_bool Tryz.underlying4 (by kernel_rfl)) (dtc.fits_cons (by kernel_rfl) (dtc.fit_bys Tryz.underlying34 Tryz.underlying5 (by kernel_rfl) (by kernel_rfl) (by kernel_rfl)) dtc.fits_nil)))) (by kernel_rfl) (by kernel_rfl)) dtc.fits_nil)))))))))) (dtc.fits_cons (by kernel_rfl) (dtc.fit_int Tryz.underlying3 (by kernel_rfl)) dtc.fits_nil))))))))) (hval 1 32 v1 rfl rfl) h1
  have y1:=z1 (dtc.each_fit hsz (j:=1) rfl rfl)
  have cn1:cl1.length=16:=by simpa[dtc.szs,dtc.Sh.sz] using cn1
  obtain⟨c1_0,c1_1,c1_2,c1_3,c1_4,c1_5,c1_6,c1_7,c1_8,c1_9,c1_10,c1_11,c1_12,c1_13,c1_14,c1_15,ecl1⟩:=cells16 cn1
  subst ecl1
  clear hA0 hval0
  have hT:txc.Tabs W:=txc.tabs_of hL
  refine(walk x0 c0_0 c0_1 c0_2 c0_3 c0_4 c0_5 c0_6 c0_7 c0_8 c0_9 c0_10 c0_11 c0_12 c0_13 c0_14 c0_15 x1 c1_0 c1_1 c1_2 c1_3 c1_4 c1_5 c1_6 c1_7 c1_8 c1_9 c1_10 c1_11 c1_12 c1_13 c1_14 c1_15 W s0 w0 y0 s1 w1 y1 hT).mono fun e W' ⟨he,bel⟩=>?_
  subst he
  exact⟨_,rfl,_,_,_,[],_,[],hW',trodAll_mk1 (shut_bool Tryz.underlying4 _),(trodAll_cons_mk (Below.trod laidOut (by kernel_rfl) (of_decide_eq_true (by kernel_rfl)) k0 bel lt0) (trodAll_cons_mk (Below.trod laidOut (by kernel_rfl) (of_decide_eq_true (by kernel_rfl)) k1 bel lt1) trodAll_mk0)),rfl,bel.frame _,fun h=>by cases h⟩

theorem over:Rows.certsBodiesRow.holds Tryz.pinned (OpenSpec.ofChange Rows.certsBodiesSpec):=
  OpenClaim.holds_of_cond 6 Tryz.f6 rfl rfl rfl rfl rfl rfl rfl ⟨rfl,rfl,rfl,rfl,rfl⟩ rfl rfl rfl rfl rfl (by kernel_rfl) Tryz.func6 (by kernel_rfl)
    (of_decide_eq_true (by kernel_rfl)) (by unfold Func.isWrapper;first | (rw[if_pos (by decide+kernel)];kernel_rfl) | (rw[if_neg (by decide+kernel)];exact⟨rfl,rfl⟩))
    (fun os started H enc _ F=>by rw[OpenClaim.pre_eq_preRow];exact lifted os started H enc F)

theorem plain (f:FuncId)(fn:Func)(hf:Tryz.pinned.checked.prog.funcNamed "warder/warderlaw11.CertsBodies" =some f)(hfn:Tryz.pinned.checked.prog.funcs[f]? =some fn):
    true=Tryz.pinned.checked.prog.looks []∧∀(j:Nat) t,fn.params[j]? =some t→Tryz.pinned.checked.prog.wantsStandIn t=false:=by
  obtain rfl:f=6:=Option.some.inj ((show Tryz.prog.funcNamed "warder/warderlaw11.CertsBodies" =some 6 by kernel_rfl).symm.trans hf) |>.symm
  obtain rfl:fn=Tryz.f6:=(Option.some.inj (Tryz.func6.symm.trans hfn)).symm
  refine⟨by kernel_rfl,fun j t ht=>?_⟩
  rw[Tryz.params6] at ht
  match j,ht with
    |0,ht=>obtain rfl:t=32:=(Option.some.inj ht).symm;exact(show Tryz.prog.wantsStandIn 32=false by kernel_rfl)
    |1,ht=>obtain rfl:t=32:=(Option.some.inj ht).symm;exact(show Tryz.prog.wantsStandIn 32=false by kernel_rfl)
    |j+2,ht=>simp at ht

theorem proved:Rows.CertsBodiesCardSaid:=
  Claim7.holds_tied_plain_at .later [] _ _ _ _ over (fun _ h=>by cases h) (by kernel_rfl) (fun _ h=>by cases h) certsBodies_row_tie rfl ⟨rfl,rfl⟩ (by kernel_rfl) rfl plain (by kernel_rfl)
#print axioms proved
end Go.Proofs.YtjanfogifehhmaaGreatDoor.certsBodies
