/- The law SubtreesExcluded of warderlaw13 answers true for every space, name and name behind it, and leaves its arguments as they were; where what it reads is of bulk at most 1048576 (the second form's bound). -/
import Derived.Test.YtclmaglkekkigaaRows
import Derived.WalkKit
import Derived.ProofKit
import Derived.OpenShut
import Derived.ChangeOld
import Derived.Below
import Derived.SizedLaws
import Derived.JoinedCond
import Derived.Deep.CondSized
import Derived.Test.YtclmaglkekkigaaOi
namespace Go.Proofs.Ytclmaglkekkigaa.subtreesExcludedUpto
open Go.ChangeShapes Go.WideShapes Go.ChangeAt Go.RowKit
set_option linter.unusedVariables false

theorem own:ownKnob Try.prog.godebug=none:=by kernel_rfl
theorem laidOut:laidOutB Try.prog=true:=by kernel_rfl

open Go.Proofs.Ytclmaglkekkigaa.tlvc Go.Proofs.Ytclmaglkekkigaa.ndc Go.Proofs.Ytclmaglkekkigaa.txc Go.Proofs.Ytclmaglkekkigaa.nmc

set_option maxRecDepth 100000 in
set_option maxHeartbeats 16000000 in
theorem walk (a0:Option Addr)(l0 c0:Nat)(b0:Option Addr)(m0 d0:Nat)(P0:List (List (List nmc.At)))(X0:List (List nmc.At))(a1:Option Addr)(len1 cap1:Nat)(x1:List nmc.At)(a2:Option Addr)(len2 cap2:Nat)(x2:List nmc.At)(w:World)(w0:nmc.SpC (fun _=>True) w P0 X0 (.slice a0 l0 c0) (.slice b0 m0 d0))(s0:nmc.SmP P0)(t0:nmc.SmL X0)(w1:nmc.LsC nmc.atE (fun _=>True) w x1 (.slice a1 len1 cap1))(s1:nmc.SmN x1)(w2:nmc.LsC nmc.atE (fun _=>True) w x2 (.slice a2 len2 cap2))(s2:nmc.SmN x2):
    Calls Try.prog 6 #[.agg #[.slice a0 l0 c0,.slice b0 m0 d0],.slice a1 len1 cap1,.slice a2 len2 cap2] w fun e w'=>e=.returned (.bool true)∧Below w.heap.size w w':=by
  obtain⟨W0,hW0⟩:=nm_ (w.alloc (.cells #[.slice a0 l0 c0,.slice b0 m0 d0] 25))
  have hb0:Below w.heap.size w W0:=by rw[←hW0];exact below_new _ _
  have p0:W0.heap[w.heap.size]? =some (.cells #[.slice a0 l0 c0,.slice b0 m0 d0] 25):=by rw[←hW0];exact heap_new_ _ _
  have HHD:=hd_ (head13_any W0)
  have HX:=hd_ (And.intro w0 (And.intro w1 (And.intro w2 (And.intro s0 (And.intro t0 (And.intro s1 s2))))))
  have HB:=hd_ (And.intro hb0 p0)
  clear w0 w1 w2 s0 s1 s2 t0 hb0 p0
  go_enter Try.func6,Try.ntmps6
  go_wp2_with fail
  refine HHD.out.mono ?_
  rintro e wa ⟨rfl,hba⟩
  have hA:=below_then HB.out.1 hba (Nat.le_refl _)
  have pa:=(hba.block _ (Array.getElem?_eq_some_iff.1 HB.out.2).1).trans HB.out.2
  have e0:wa.cell? ⟨w.heap.size,0,none⟩=some (.slice a0 l0 c0):=(Lib.cell_of_heap pa _).trans rfl
  have e1:wa.cell? ⟨w.heap.size,1,none⟩=some (.slice b0 m0 d0):=(Lib.cell_of_heap pa _).trans rfl
  have HG:=hd_ (great_any (HX.out.1.below hA) (by have:=(ls4 HX.out.1.exclude).1;have:=HX.out.2.2.2.2.1.1;omega))
  have HA:=hd_ (And.intro hA pa)
  clear hba hA pa HHD HB
  go_wp2_with fail
  refine HG.out.mono ?_
  rintro e wg ⟨⟨gb,rfl⟩,hbg⟩
  have hA:=below_then HA.out.1 hbg (Nat.le_refl _)
  have pa:=(hbg.block _ (Array.getElem?_eq_some_iff.1 HA.out.2).1).trans HA.out.2
  clear hbg HG HA e0 e1
  cases gb with
  |true=>
   have HE:=hd_ hA
   clear hA pa
   go_wp2
   go_ret
   exact⟨rfl,HE.out⟩
  |false=>
   have e0:wg.cell? ⟨w.heap.size,0,none⟩=some (.slice a0 l0 c0):=(Lib.cell_of_heap pa _).trans rfl
   have e1:wg.cell? ⟨w.heap.size,1,none⟩=some (.slice b0 m0 d0):=(Lib.cell_of_heap pa _).trans rfl
   obtain⟨V1,v1,w5,V2,v2,w6,hr1,hr2,hV,hbm⟩:=more_ls (HX.out.2.1.below hA) (HX.out.2.2.1.below hA) HX.out.2.2.2.2.2.1 HX.out.2.2.2.2.2.2
   have h6:=below_then hA hbm (Nat.le_refl _)
   have p6:=(hbm.block _ (Array.getElem?_eq_some_iff.1 pa).1).trans pa
   have e2:w6.cell? ⟨w.heap.size,0,none⟩=some (.slice a0 l0 c0):=(Lib.cell_of_heap p6 _).trans rfl
   have e3:w6.cell? ⟨w.heap.size,1,none⟩=some (.slice b0 m0 d0):=(Lib.cell_of_heap p6 _).trans rfl
   obtain⟨W7,hW7⟩:=nm_ (w6.alloc (.cells #[.slice a1 len1 cap1] 27))
   have hb7:Below w6.heap.size w6 W7:=by rw[←hW7];exact below_new _ _
   have p7:W7.heap[w6.heap.size]? =some (.cells #[.slice a1 len1 cap1] 27):=by rw[←hW7];exact heap_new_ _ _
   have h7:=below_then h6 hb7 (Nat.le_refl _)
   have hone:=one_ls (HX.out.2.1.below h7) p7 trivial
   have HC:=hd_ (narrow_any (T:=fun _=>True) (p:=[]) (C:=none) (lp:=0) (cp:=0) (HX.out.1.below h7) LsC.nil hone HX.out.2.2.2.1 HX.out.2.2.2.2.1 nil_smL (one_smL HX.out.2.2.2.2.2.1))
   have HY:=hd_ (And.intro h7 (And.intro ((hb7.block _ (Array.getElem?_eq_some_iff.1 p6).1).trans p6) (hV.below hb7)))
   clear hA pa hbm hV h6 p6 hb7 p7 h7 hone
   go_wp2_with (first | (at_builtin;refine wpl_append rfl (.tmp 15) (.tmp 16) 27 rfl _ _ _ rfl rfl hr1 ?_) | (at_builtin;refine wpl_append rfl (.tmp 17) (.tmp 18) 27 rfl _ _ _ rfl rfl hr2 ?_))
   clear hr1 hr2 e0 e1 e2 e3 hW7
   refine HC.out.mono ?_
   rintro e w8 ⟨hb8,_,A8,l8,c8,B8,m8,d8,rfl,hS⟩
   have h8:=below_then HY.out.1 hb8 (Nat.le_refl _)
   obtain⟨W8,hW8⟩:=nm_ (w8.alloc (.cells #[.slice A8 l8 c8,.slice B8 m8 d8] 25))
   have hb9:Below w8.heap.size w8 W8:=by rw[←hW8];exact below_new _ _
   have p8:W8.heap[w8.heap.size]? =some (.cells #[.slice A8 l8 c8,.slice B8 m8 d8] 25):=by rw[←hW8];exact heap_new_ _ _
   have h9:=below_then h8 hb9 (Nat.le_refl _)
   have hpW:=(below_then hb8 hb9 (Nat.le_refl _)).block _ (Array.getElem?_eq_some_iff.1 HY.out.2.1).1
   have q8:=hpW.trans HY.out.2.1
   have hz8:w.heap.size<W8.heap.size:=(Array.getElem?_eq_some_iff.1 q8).1
   have e4:(W8.alloc (.cells #[] 23)).cell? ⟨w.heap.size,0,none⟩=some (.slice a0 l0 c0):=(Lib.cell_of_heap ((heap_old_ W8 (.cells #[] 23) hz8).trans q8) _).trans rfl
   obtain⟨U1,u1,w9,U2,u2,w10,hr3,hr4,hU,hb10⟩:=none_run (HX.out.1.permit.below h9) HX.out.2.2.2.1.1
   have h10:=below_then h9 hb10 (Nat.le_refl _)
   obtain⟨W10,hW10⟩:=nm_ (w10.alloc (.cells #[.slice U2 (l0+1) u2,.slice none 0 0] 25))
   have hb11:Below w10.heap.size w10 W10:=by rw[←hW10];exact below_new _ _
   have p10:W10.heap[w10.heap.size]? =some (.cells #[.slice U2 (l0+1) u2,.slice none 0 0] 25):=by rw[←hW10];exact heap_new_ _ _
   have h11:=below_then h10 hb11 (Nat.le_refl _)
   have hbx:=below_then hb10 hb11 (Nat.le_refl _)
   have pa10:=(hbx.block _ (Array.getElem?_eq_some_iff.1 p8).1).trans p8
   have hSa:=(hS.below hb9).below hbx
   have hV11:=((((HY.out.2.2).below hb8).below hb9).below hbx)
   have hNo:SpC _ W10 (P0++[[]]) [] (.slice U2 (l0+1) u2) (.slice none 0 0):=⟨hU.below hb11,LsC.nil⟩
   have hTa:=narrow_tx HX.out.2.2.2.1 HX.out.2.2.2.2.1 nil_smL (one_smL HX.out.2.2.2.2.2.1)
   have hTb:=app_tx HX.out.2.2.2.2.2.1 HX.out.2.2.2.2.2.2
   have hTn:TxS (P0++[[]]) []:=⟨fun L hL a ha=>by
     rcases List.mem_append.1 hL with h |h
     · exact((HX.out.2.2.2.1.2 L h).2 a ha).tx
     · rw[List.mem_singleton.1 h] at ha;simp at ha,fun a ha=>by simp at ha⟩
   have hout1:allowedB unP (narrowP P0 []) (X0++[x1]) (x1++x2)=false:=allowed_out unP (narrowP P0 []) X0 (unP_more x1 x2)
   have hout2:allowedB unP (narrowP P0 []) (X0++[x1]) x1=false:=allowed_out unP (narrowP P0 []) X0 (unP_self x1)
   have hout3:allowedB unP (P0++[[]]) [] (x1++x2)=false:=allowed_none unP P0 [] (x1++x2)
   have HC1:=hd_ (allowed_any hSa hV11 hTb hTa)
   rw[hout1] at HC1
   have f0:(w10.alloc (.cells #[.slice U2 (l0+1) u2,.slice none 0 0] 25)).cell? ⟨w8.heap.size,0,none⟩=some (.slice A8 l8 c8):=by rw[hW10];exact(Lib.cell_of_heap pa10 _).trans rfl
   have f1:(w10.alloc (.cells #[.slice U2 (l0+1) u2,.slice none 0 0] 25)).cell? ⟨w8.heap.size,1,none⟩=some (.slice B8 m8 d8):=by rw[hW10];exact(Lib.cell_of_heap pa10 _).trans rfl
   have HF:=hd_ (And.intro h11 (And.intro hSa (And.intro hV11 (And.intro hNo (And.intro hTa (And.intro hTb (And.intro hTn (And.intro pa10 (And.intro p10 (And.intro hout2 hout3))))))))))
   have HW10:=hd_ hW10
   clear hW10 hb8 hS h8 hb9 p8 h9 hpW q8 HC HY hz8 hU hb10 h10 hb11 p10 h11 hbx pa10 hSa hV11 hNo hTa hTb hTn hout1 hout2 hout3
   go_wp2_with (first | (at_builtin;refine wpl_append rfl (.tmp 24) (.tmp 26) 22 rfl _ _ _ rfl rfl hr3 ?_) | (at_builtin;refine wpl_append rfl (.tmp 27) (.tmp 28) 22 rfl _ _ _ rfl rfl hr4 ?_))
   clear hr3 hr4 e4 hW8
   rw[HW10.out]
   refine HC1.out.mono ?_
   rintro e w12 ⟨rfl,hb12⟩
   have h12:=below_then HF.out.1 hb12 (Nat.le_refl _)
   obtain⟨h11,hSa,hV11,hNo,hTa,hTb,hTn,pa10,p10,hout2,hout3⟩:=HF.out
   have pa12:=(hb12.block _ (Array.getElem?_eq_some_iff.1 pa10).1).trans pa10
   have p12:=(hb12.block _ (Array.getElem?_eq_some_iff.1 p10).1).trans p10
   have g0:w12.cell? ⟨w8.heap.size,0,none⟩=some (.slice A8 l8 c8):=(Lib.cell_of_heap pa12 _).trans rfl
   have g1:w12.cell? ⟨w8.heap.size,1,none⟩=some (.slice B8 m8 d8):=(Lib.cell_of_heap pa12 _).trans rfl
   have HC2:=hd_ (allowed_any (hSa.below hb12) (HX.out.2.1.below h12) HX.out.2.2.2.2.2.1.tx hTa)
   rw[hout2] at HC2
   have HG:=hd_ (And.intro h12 (And.intro (hV11.below hb12) (And.intro (hNo.below hb12) (And.intro hTb (And.intro hTn (And.intro p12 hout3))))))
   clear hb12 h12 h11 hSa hV11 hNo hTa hTb hTn pa10 p10 hout2 hout3 pa12 p12 f0 f1 HC1 HF HW10
   go_wp2_with fail
   refine HC2.out.mono ?_
   rintro e w13 ⟨rfl,hb13⟩
   have h13:=below_then HG.out.1 hb13 (Nat.le_refl _)
   obtain⟨_,hV12,hNo,hTb,hTn,p12,hout3⟩:=HG.out
   have p13:=(hb13.block _ (Array.getElem?_eq_some_iff.1 p12).1).trans p12
   have k0:w13.cell? ⟨w10.heap.size,0,none⟩=some (.slice U2 (l0+1) u2):=(Lib.cell_of_heap p13 _).trans rfl
   have k1:w13.cell? ⟨w10.heap.size,1,none⟩=some (.slice none 0 0):=(Lib.cell_of_heap p13 _).trans rfl
   have HC3:=hd_ (allowed_any (hNo.below hb13) (hV12.below hb13) hTb hTn)
   rw[hout3] at HC3
   have HK:=hd_ h13
   clear hb13 h13 hV12 hNo hTb hTn p12 p13 hout3 g0 g1 HC2 HG
   go_wp2_with fail
   refine HC3.out.mono ?_
   rintro e w14 ⟨rfl,hb14⟩
   have HE:=hd_ (below_then HK.out hb14 (Nat.le_refl _))
   clear hb14 HC3 HK k0 k1
   go_wp2
   go_ret
   exact⟨rfl,HE.out⟩

set_option maxRecDepth 100000 in
theorem lifted (os:Os)(started:os.Started)(H:Type)(enc:TypeId × Value→H)(F:Stop.Interp):
    ReturnsInHanded {} Try.checked os 6 .any ((Rows.OpenSpec.upto Rows.subtreesExcludedSpec).pre6 enc Try.prog Try.f6 Rows.subtreesExcludedUptoRow.domain false) (((Rows.OpenSpec.upto Rows.subtreesExcludedSpec).at F).post enc Try.prog Try.f6 false true false false):=by
  refine returnsInHanded_of_cond_sized (C:=Try.checked) (s:=Rows.OpenSpec.upto Rows.subtreesExcludedSpec) (k:=Rows.uptoSmall) rfl own started (by kernel_rfl) Try.func6
    (OpenSpec.witness (enc:=enc) (C:=Try.checked) (s:=Rows.OpenSpec.upto Rows.subtreesExcludedSpec) (k:=Rows.uptoSmall) rfl false ⟨#[],#[.agg #[.slice none 0 0,.slice none 0 0],.slice none 0 0,.slice none 0 0],[]⟩ 8 (by kernel_rfl) (by kernel_rfl) (by kernel_rfl)
      (x:=([.agg [.nil,.nil],.nil,.nil],[],[])) (by kernel_rfl) rfl (by kernel_rfl)) ?_
  intro W base args ds gs before hval0 hW hcnd hk hsz0 _
  have hval: ∀(j:Nat) t v,Try.f6.params[j]? =some t→args[j]? =some v→Value.okWide Try.prog W .any base t v:=hval0
  have hW':=hW
  obtain⟨p,q,hA0,hV,rfl,hfz,hnd⟩:=hW
  have hA:DataW.TrodAll enc Try.prog W 0 (fun _=>true) true Try.f6.params.toList args.toList ds p:=hA0
  have hsz:(DataW.weightsEach Try.prog (Try.f6.params.toList++(Rows.OpenSpec.upto Rows.subtreesExcludedSpec).bare.plain.varTypes Try.prog) (ds++gs)).all (· ≤reachBytes)=true:=hsz0
  rw[Try.params6] at hA hval hsz
  obtain⟨v0,vs0,d0,ds0,p0,q0,hargs,rfl,rfl,h0,r_0⟩:=trodAll_cons hA
  obtain⟨v1,vs1,d1,ds1,p1,q1,rfl,rfl,rfl,h1,r_1⟩:=trodAll_cons r_0
  obtain⟨v2,vs2,d2,ds2,p2,q2,rfl,rfl,rfl,h2,r_2⟩:=trodAll_cons r_1
  obtain⟨rfl,rfl,rfl⟩:=trodAll_nil r_2
  obtain rfl:args=#[v0,v1,v2]:=by cases args;simp_all
  obtain⟨rfl,rfl⟩:=trodVars_none hV
  have k0:=h0
  have lt0: ∀x∈p0,x.block<W.heap.size:=by obtain⟨m,hm⟩:=k0;exact DataW.trod_lt m _ _ _ hm
  obtain⟨cs0,rfl,_⟩:=okWide_struct Try.underlying25 (hval 0 25 v0 rfl rfl)
  obtain⟨z0,i0,u0,g0,y0⟩:=dtc.open_shS (s:=.agg [.row (.row (.row (.agg [.row (.int .i64),.str]))),.row (.row (.agg [.row (.int .i64),.str]))]) (dtc.fit_agg Try.underlying25 (by kernel_rfl) (dtc.fits_cons (by kernel_rfl) (dtc.fit_row Try.underlying22 (dtc.fit_row Try.underlying23 (dtc.fit_row Try.underlying27 (dtc.fit_agg Try.underlying35 (by kernel_rfl) (dtc.fits_cons (by kernel_rfl) (dtc.fit_row Try.underlying33 (dtc.fit_int Try.underlying3 (by kernel_rfl)) (by kernel_rfl) (by kernel_rfl)) (dtc.fits_cons (by kernel_rfl) (dtc.fit_str Try.underlying9 (by kernel_rfl)) dtc.fits_nil))) (by kernel_rfl) (by kernel_rfl)) (by kernel_rfl) (by kernel_rfl)) (by kernel_rfl) (by kernel_rfl)) (dtc.fits_cons (by kernel_rfl) (dtc.fit_row Try.underlying23 (dtc.fit_row Try.underlying27 (dtc.fit_agg Try.underlying35 (by kernel_rfl) (dtc.fits_cons (by kernel_rfl) (dtc.fit_row Try.underlying33 (dtc.fit_int Try.underlying3 (by kernel_rfl)) (by kernel_rfl) (by kernel_rfl)) (dtc.fits_cons (by kernel_rfl) (dtc.fit_str Try.underlying9 (by kernel_rfl)) dtc.fits_nil))) (by kernel_rfl) (by kernel_rfl)) (by kernel_rfl) (by kernel_rfl)) dtc.fits_nil))) h0
  obtain⟨a0,l0,c0,b0,m0,d0',ev0,P0,X0,w0,s0,t0⟩:=nmc.arg_sp i0 u0 (y0 (dtc.bulk_at hk (j:=0) rfl)) (g0.trans (by kernel_rfl)) rfl
  obtain rfl:cs0=#[.slice a0 l0 c0,.slice b0 m0 d0']:=by injection ev0
  obtain⟨a1,len1,cap1,rfl⟩:=okWide_slice Try.underlying27 (hval 1 27 v1 rfl rfl)
  have k1:=h1
  have lt1: ∀x∈p1,x.block<W.heap.size:=by obtain⟨m,hm⟩:=k1;exact DataW.trod_lt m _ _ _ hm
  obtain⟨z1,i1,u1,_,y1⟩:=dtc.open_shS (s:=.row (.agg [.row (.int .i64),.str])) (dtc.fit_row Try.underlying27 (dtc.fit_agg Try.underlying35 (by kernel_rfl) (dtc.fits_cons (by kernel_rfl) (dtc.fit_row Try.underlying33 (dtc.fit_int Try.underlying3 (by kernel_rfl)) (by kernel_rfl) (by kernel_rfl)) (dtc.fits_cons (by kernel_rfl) (dtc.fit_str Try.underlying9 (by kernel_rfl)) dtc.fits_nil))) (by kernel_rfl) (by kernel_rfl)) h1
  obtain⟨x1,w1,s1⟩:=nmc.arg_nm i1 u1 (y1 (dtc.bulk_at hk (j:=1) rfl)) rfl
  obtain⟨a2,len2,cap2,rfl⟩:=okWide_slice Try.underlying27 (hval 2 27 v2 rfl rfl)
  have k2:=h2
  have lt2: ∀x∈p2,x.block<W.heap.size:=by obtain⟨m,hm⟩:=k2;exact DataW.trod_lt m _ _ _ hm
  obtain⟨z2,i2,u2,_,y2⟩:=dtc.open_shS (s:=.row (.agg [.row (.int .i64),.str])) (dtc.fit_row Try.underlying27 (dtc.fit_agg Try.underlying35 (by kernel_rfl) (dtc.fits_cons (by kernel_rfl) (dtc.fit_row Try.underlying33 (dtc.fit_int Try.underlying3 (by kernel_rfl)) (by kernel_rfl) (by kernel_rfl)) (dtc.fits_cons (by kernel_rfl) (dtc.fit_str Try.underlying9 (by kernel_rfl)) dtc.fits_nil))) (by kernel_rfl) (by kernel_rfl)) h2
  obtain⟨x2,w2,s2⟩:=nmc.arg_nm i2 u2 (y2 (dtc.bulk_at hk (j:=2) rfl)) rfl
  clear hA0 hval0
  refine(walk a0 l0 c0 b0 m0 d0' P0 X0 a1 len1 cap1 x1 a2 len2 cap2 x2 W w0 s0 t0 w1 s1 w2 s2).mono fun e W' ⟨he,bel⟩=>?_
  subst he
  exact⟨_,rfl,_,_,_,[],_,[],hW',trodAll_mk1 (shut_bool Try.underlying4 _),(trodAll_cons_mk (Below.trod laidOut (by kernel_rfl) (of_decide_eq_true (by kernel_rfl)) k0 bel lt0) (trodAll_cons_mk (Below.trod laidOut (by kernel_rfl) (of_decide_eq_true (by kernel_rfl)) k1 bel lt1) (trodAll_cons_mk (Below.trod laidOut (by kernel_rfl) (of_decide_eq_true (by kernel_rfl)) k2 bel lt2) trodAll_mk0))),rfl,bel.frame _,fun h=>by cases h⟩

theorem over:Rows.subtreesExcludedUptoRow.holds Try.pinned (Rows.OpenSpec.upto Rows.subtreesExcludedSpec):=
  OpenClaim.holds_of_cond 6 Try.f6 rfl rfl rfl rfl rfl rfl rfl ⟨rfl,rfl,rfl,rfl,rfl⟩ rfl rfl rfl rfl rfl (by kernel_rfl) Try.func6 (by kernel_rfl)
    (of_decide_eq_true (by kernel_rfl)) (by unfold Func.isWrapper;first | (rw[if_pos (by decide+kernel)];kernel_rfl) | (rw[if_neg (by decide+kernel)];exact⟨rfl,rfl⟩))
    (fun os started H enc _ F=>lifted os started H enc F)

theorem proved:Rows.SubtreesExcludedUptoSaid:=over
#print axioms proved
end Go.Proofs.Ytclmaglkekkigaa.subtreesExcludedUpto
