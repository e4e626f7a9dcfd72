/- The law SubtreesBelow of warderlaw13 answers true for every list of names, name and name behind it, and leaves its arguments as they were; where what it reads is of bulk at most 1048576 (the second form's bound). -/
import Derived.Test.YtclmaglkekkigaaRows
import Derived.WalkKit
import Derived.ProofKit
import Derived.OpenShut
import Derived.ChangeOld
import Derived.Below
import Derived.SizedLaws
import Derived.JoinedCond
import Derived.Deep.CondSized
import Derived.Test.YtclmaglkekkigaaOh
namespace Go.Proofs.Ytclmaglkekkigaa.subtreesBelowUpto
open Go.ChangeShapes Go.WideShapes Go.ChangeAt Go.RowKit
set_option linter.unusedVariables false

theorem own:ownKnob Try.prog.godebug=none:=by kernel_rfl
theorem laidOut:laidOutB Try.prog=true:=by kernel_rfl

open Go.Proofs.Ytclmaglkekkigaa.tlvc Go.Proofs.Ytclmaglkekkigaa.ndc Go.Proofs.Ytclmaglkekkigaa.txc Go.Proofs.Ytclmaglkekkigaa.nmc

set_option maxRecDepth 100000 in
set_option maxHeartbeats 16000000 in
theorem walk (a0:Option Addr)(len0 cap0:Nat)(x0:List (List nmc.At))(a1:Option Addr)(len1 cap1:Nat)(x1:List nmc.At)(a2:Option Addr)(len2 cap2:Nat)(x2:List nmc.At)(w:World)(w0:nmc.LsC (nmc.lsE nmc.atE) (fun _=>True) w x0 (.slice a0 len0 cap0))(s0:nmc.SmL x0)(w1:nmc.LsC nmc.atE (fun _=>True) w x1 (.slice a1 len1 cap1))(s1:nmc.SmN x1)(w2:nmc.LsC nmc.atE (fun _=>True) w x2 (.slice a2 len2 cap2))(s2:nmc.SmN x2):
    Calls Try.prog 5 #[.slice a0 len0 cap0,.slice a1 len1 cap1,.slice a2 len2 cap2] w fun e w'=>e=.returned (.bool true)∧Below w.heap.size w w':=by
  have HHD:=hd_ (head13_any w)
  have HX:=hd_ (And.intro w0 (And.intro w1 (And.intro w2 (And.intro s0 (And.intro s1 s2)))))
  clear w0 w1 w2 s0 s1 s2
  go_enter Try.func5,Try.ntmps5
  go_wp2_with fail
  refine HHD.out.mono ?_
  rintro e wa ⟨rfl,hba⟩
  have HA:=hd_ hba
  clear hba HHD
  by_cases hg:500<len0
  · have hz:(500:Int)< (len0:Int):=by omega
    go_wp2
    go_ret
    exact⟨rfl,HA.out⟩
  have hz: ¬(500:Int)< (len0:Int):=by omega
  have HC:=hd_ (narrow_any (S:=fun _=>True) (U:=fun _=>True) (P:=[]) (X:=[]) (e:=[]) (w:=wa) ⟨LsC.nil,LsC.nil⟩ (HX.out.1.below HA.out) LsC.nil nil_smP nil_smL HX.out.2.2.2.1 nil_smL)
  go_wp2_with fail
  refine HC.out.mono ?_
  rintro e w3 ⟨hb3,_,A3,l3,c3,B3,m3,d3,rfl,hS⟩
  have hB3:=below_then HA.out hb3 (Nat.le_refl _)
  obtain⟨W3,hW3⟩:=nm_ (w3.alloc (.cells #[.slice A3 l3 c3,.slice B3 m3 d3] 25))
  have hb4:Below w3.heap.size w3 W3:=by rw[←hW3];exact below_new _ _
  have p3:W3.heap[w3.heap.size]? =some (.cells #[.slice A3 l3 c3,.slice B3 m3 d3] 25):=by rw[←hW3];exact heap_new_ _ _
  have hB4:=below_then hB3 hb4 (Nat.le_refl _)
  have hS4:=hS.below hb4
  have HY:=hd_ (And.intro hB4 (And.intro hS4 p3))
  obtain⟨V1,c1,w5,V2,c2,w6,hr1,hr2,hV,hbm⟩:=more_ls (HX.out.2.1.below hB4) (HX.out.2.2.1.below hB4) HX.out.2.2.2.2.1 HX.out.2.2.2.2.2
  have hB6:=below_then hB4 hbm (Nat.le_refl _)
  have p6:=(hbm.block _ (Array.getElem?_eq_some_iff.1 p3).1).trans p3
  have HY:=hd_ (And.intro hB6 (And.intro (hS4.below hbm) (And.intro p6 hV)))
  have HC1:=hd_ (allowed_any (S:=fun _=>True) (T:=fun _=>True) (P:=[]) (X:=[]) ⟨LsC.nil,LsC.nil⟩ (HX.out.2.1.below hB6) HX.out.2.2.2.2.1.tx (smP_tx nil_smP nil_smL))
  clear hb3 hS hB3 hb4 p3 hB4 hS4 HC HA hbm hB6 p6 hV
  go_wp2_with (first | (at_builtin;refine wpl_append rfl (.tmp 18) (.tmp 19) 27 rfl _ _ _ rfl rfl hr1 ?_) | (at_builtin;refine wpl_append rfl (.tmp 20) (.tmp 21) 27 rfl _ _ _ rfl rfl hr2 ?_))
  clear hr1 hr2 hW3
  refine HC1.out.mono ?_
  rintro e w7 ⟨rfl,hb7⟩
  have hB7:=below_then HY.out.1 hb7 (Nat.le_refl _)
  have p7:=(hb7.block _ (Array.getElem?_eq_some_iff.1 HY.out.2.2.1).1).trans HY.out.2.2.1
  have e0:w7.cell? ⟨w3.heap.size,0,none⟩=some (.slice A3 l3 c3):=(Lib.cell_of_heap p7 _).trans rfl
  have e1:w7.cell? ⟨w3.heap.size,1,none⟩=some (.slice B3 m3 d3):=(Lib.cell_of_heap p7 _).trans rfl
  have hT:=narrow_tx nil_smP nil_smL HX.out.2.2.2.1 nil_smL
  have hC2:=allowed_any (HY.out.2.1.below hb7) (HX.out.2.1.below hB7) HX.out.2.2.2.2.1.tx hT
  obtain⟨R,hR⟩:=nm_ (allowedB unP (narrowP [] x0) ([]++[]) x1)
  rw[hR] at hC2
  have HR:=hd_ hR
  have HC2:=hd_ hC2
  have HZ:=hd_ (And.intro hB7 (And.intro (HY.out.2.1.below hb7) (And.intro p7 (And.intro (HY.out.2.2.2.below hb7) hT))))
  have hem:allowedB unP ([]:List (List (List At))) [] x1=true:=allowed_empty unP x1
  rw[hem]
  clear hb7 hB7 p7 hT hR hC2 hem HC1 HY
  go_wp2_with fail
  refine HC2.out.mono ?_
  rintro e w8 ⟨rfl,hb8⟩
  have hB8:=below_then HZ.out.1 hb8 (Nat.le_refl _)
  cases R with
  |false=>
   have HE:=hd_ hB8
   clear hb8 hB8 HC2 e0 e1
   go_wp2
   go_ret
   exact⟨rfl,HE.out⟩
  |true=>
   have p8:=(hb8.block _ (Array.getElem?_eq_some_iff.1 HZ.out.2.2.1).1).trans HZ.out.2.2.1
   have e2:w8.cell? ⟨w3.heap.size,0,none⟩=some (.slice A3 l3 c3):=(Lib.cell_of_heap p8 _).trans rfl
   have e3:w8.cell? ⟨w3.heap.size,1,none⟩=some (.slice B3 m3 d3):=(Lib.cell_of_heap p8 _).trans rfl
   have hC3:=allowed_any (HZ.out.2.1.below hb8) (HZ.out.2.2.2.1.below hb8) (app_tx HX.out.2.2.2.2.1 HX.out.2.2.2.2.2) HZ.out.2.2.2.2
   have hbl:allowedB unP (narrowP [] x0) ([]++[]) (x1++x2)=true:=allowed_below unP (fun p hp=>unP_below x2 hp) HR.out
   rw[hbl] at hC3
   have HC3:=hd_ hC3
   have HE:=hd_ hB8
   clear hb8 hB8 HC2 e0 e1 p8 hC3 hbl
   go_wp2_with fail
   refine HC3.out.mono ?_
   rintro e w9 ⟨rfl,hb9⟩
   have HF:=hd_ (below_then HE.out hb9 (Nat.le_refl _))
   clear hb9 HC3 HE e2 e3
   go_wp2
   go_ret
   exact⟨rfl,HF.out⟩

set_option maxRecDepth 100000 in
theorem lifted (os:Os)(started:os.Started)(H:Type)(enc:TypeId × Value→H)(F:Stop.Interp):
    ReturnsInHanded {} Try.checked os 5 .any ((Rows.OpenSpec.upto Rows.subtreesBelowSpec).pre6 enc Try.prog Try.f5 Rows.subtreesBelowUptoRow.domain false) (((Rows.OpenSpec.upto Rows.subtreesBelowSpec).at F).post enc Try.prog Try.f5 false true false false):=by
  refine returnsInHanded_of_cond_sized (C:=Try.checked) (s:=Rows.OpenSpec.upto Rows.subtreesBelowSpec) (k:=Rows.uptoSmall) rfl own started (by kernel_rfl) Try.func5
    (OpenSpec.witness (enc:=enc) (C:=Try.checked) (s:=Rows.OpenSpec.upto Rows.subtreesBelowSpec) (k:=Rows.uptoSmall) rfl false ⟨#[],#[.slice none 0 0,.slice none 0 0,.slice none 0 0],[]⟩ 8 (by kernel_rfl) (by kernel_rfl) (by kernel_rfl)
      (x:=([.nil,.nil,.nil],[],[])) (by kernel_rfl) rfl (by kernel_rfl)) ?_
  intro W base args ds gs before hval0 hW hcnd hk hsz0 _
  have hval: ∀(j:Nat) t v,Try.f5.params[j]? =some t→args[j]? =some v→Value.okWide Try.prog W .any base t v:=hval0
  have hW':=hW
  obtain⟨p,q,hA0,hV,rfl,hfz,hnd⟩:=hW
  have hA:DataW.TrodAll enc Try.prog W 0 (fun _=>true) true Try.f5.params.toList args.toList ds p:=hA0
  have hsz:(DataW.weightsEach Try.prog (Try.f5.params.toList++(Rows.OpenSpec.upto Rows.subtreesBelowSpec).bare.plain.varTypes Try.prog) (ds++gs)).all (· ≤reachBytes)=true:=hsz0
  rw[Try.params5] at hA hval hsz
  obtain⟨v0,vs0,d0,ds0,p0,q0,hargs,rfl,rfl,h0,r_0⟩:=trodAll_cons hA
  obtain⟨v1,vs1,d1,ds1,p1,q1,rfl,rfl,rfl,h1,r_1⟩:=trodAll_cons r_0
  obtain⟨v2,vs2,d2,ds2,p2,q2,rfl,rfl,rfl,h2,r_2⟩:=trodAll_cons r_1
  obtain⟨rfl,rfl,rfl⟩:=trodAll_nil r_2
  obtain rfl:args=#[v0,v1,v2]:=by cases args;simp_all
  obtain⟨rfl,rfl⟩:=trodVars_none hV
  obtain⟨a0,len0,cap0,rfl⟩:=okWide_slice Try.underlying23 (hval 0 23 v0 rfl rfl)
  have k0:=h0
  have lt0: ∀x∈p0,x.block<W.heap.size:=by obtain⟨m,hm⟩:=k0;exact DataW.trod_lt m _ _ _ hm
  obtain⟨z0,i0,u0,_,y0⟩:=dtc.open_shS (s:=.row (.row (.agg [.row (.int .i64),.str]))) (dtc.fit_row Try.underlying23 (dtc.fit_row Try.underlying27 (dtc.fit_agg Try.underlying35 (by kernel_rfl) (dtc.fits_cons (by kernel_rfl) (dtc.fit_row Try.underlying33 (dtc.fit_int Try.underlying3 (by kernel_rfl)) (by kernel_rfl) (by kernel_rfl)) (dtc.fits_cons (by kernel_rfl) (dtc.fit_str Try.underlying9 (by kernel_rfl)) dtc.fits_nil))) (by kernel_rfl) (by kernel_rfl)) (by kernel_rfl) (by kernel_rfl)) h0
  obtain⟨x0,w0,s0⟩:=nmc.arg_nl i0 u0 (y0 (dtc.bulk_at hk (j:=0) rfl)) rfl
  obtain⟨a1,len1,cap1,rfl⟩:=okWide_slice Try.underlying27 (hval 1 27 v1 rfl rfl)
  have k1:=h1
  have lt1: ∀x∈p1,x.block<W.heap.size:=by obtain⟨m,hm⟩:=k1;exact DataW.trod_lt m _ _ _ hm
  obtain⟨z1,i1,u1,_,y1⟩:=dtc.open_shS (s:=.row (.agg [.row (.int .i64),.str])) (dtc.fit_row Try.underlying27 (dtc.fit_agg Try.underlying35 (by kernel_rfl) (dtc.fits_cons (by kernel_rfl) (dtc.fit_row Try.underlying33 (dtc.fit_int Try.underlying3 (by kernel_rfl)) (by kernel_rfl) (by kernel_rfl)) (dtc.fits_cons (by kernel_rfl) (dtc.fit_str Try.underlying9 (by kernel_rfl)) dtc.fits_nil))) (by kernel_rfl) (by kernel_rfl)) h1
  obtain⟨x1,w1,s1⟩:=nmc.arg_nm i1 u1 (y1 (dtc.bulk_at hk (j:=1) rfl)) rfl
  obtain⟨a2,len2,cap2,rfl⟩:=okWide_slice Try.underlying27 (hval 2 27 v2 rfl rfl)
  have k2:=h2
  have lt2: ∀x∈p2,x.block<W.heap.size:=by obtain⟨m,hm⟩:=k2;exact DataW.trod_lt m _ _ _ hm
  obtain⟨z2,i2,u2,_,y2⟩:=dtc.open_shS (s:=.row (.agg [.row (.int .i64),.str])) (dtc.fit_row Try.underlying27 (dtc.fit_agg Try.underlying35 (by kernel_rfl) (dtc.fits_cons (by kernel_rfl) (dtc.fit_row Try.underlying33 (dtc.fit_int Try.underlying3 (by kernel_rfl)) (by kernel_rfl) (by kernel_rfl)) (dtc.fits_cons (by kernel_rfl) (dtc.fit_str Try.underlying9 (by kernel_rfl)) dtc.fits_nil))) (by kernel_rfl) (by kernel_rfl)) h2
  obtain⟨x2,w2,s2⟩:=nmc.arg_nm i2 u2 (y2 (dtc.bulk_at hk (j:=2) rfl)) rfl
  clear hA0 hval0
  refine(walk a0 len0 cap0 x0 a1 len1 cap1 x1 a2 len2 cap2 x2 W w0 s0 w1 s1 w2 s2).mono fun e W' ⟨he,bel⟩=>?_
  subst he
  exact⟨_,rfl,_,_,_,[],_,[],hW',trodAll_mk1 (shut_bool Try.underlying4 _),(trodAll_cons_mk (Below.trod laidOut (by kernel_rfl) (of_decide_eq_true (by kernel_rfl)) k0 bel lt0) (trodAll_cons_mk (Below.trod laidOut (by kernel_rfl) (of_decide_eq_true (by kernel_rfl)) k1 bel lt1) (trodAll_cons_mk (Below.trod laidOut (by kernel_rfl) (of_decide_eq_true (by kernel_rfl)) k2 bel lt2) trodAll_mk0))),rfl,bel.frame _,fun h=>by cases h⟩

theorem over:Rows.subtreesBelowUptoRow.holds Try.pinned (Rows.OpenSpec.upto Rows.subtreesBelowSpec):=
  OpenClaim.holds_of_cond 5 Try.f5 rfl rfl rfl rfl rfl rfl rfl ⟨rfl,rfl,rfl,rfl,rfl⟩ rfl rfl rfl rfl rfl (by kernel_rfl) Try.func5 (by kernel_rfl)
    (of_decide_eq_true (by kernel_rfl)) (by unfold Func.isWrapper;first | (rw[if_pos (by decide+kernel)];kernel_rfl) | (rw[if_neg (by decide+kernel)];exact⟨rfl,rfl⟩))
    (fun os started H enc _ F=>lifted os started H enc F)

theorem proved:Rows.SubtreesBelowUptoSaid:=over
#print axioms proved
end Go.Proofs.Ytclmaglkekkigaa.subtreesBelowUpto
