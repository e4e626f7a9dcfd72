/- The law CrlsSpans of warderlaw12 answers true for any list, any serial and any time, and leaves its arguments as they were; no condition but that the library's two tables are as its text lays them. -/
import Derived.Test.YtconbejjagcnkaaDoorCards
import Derived.Test.YtconbejjagcnkaaDoorTie
import Derived.WalkKit
import Derived.ProofKit
import Derived.OpenShut
import Derived.ChangeOld
import Derived.Below
import Derived.SizedLaws
import Derived.Test.YtconbejjagcnkaaDoorKb
import Derived.Test.YtconbejjagcnkaaDoorXc
import Derived.Test.YtconbejjagcnkaaDoorWk
namespace Go.Proofs.YtconbejjagcnkaaDoor.crlsSpans
open Go.ChangeShapes Go.WideShapes Go.ChangeAt Go.RowKit
set_option linter.unusedVariables false

theorem own:ownKnob Tryd.prog.godebug=none:=by kernel_rfl
theorem laidOut:laidOutB Tryd.prog=true:=by kernel_rfl

open Go.Proofs.YtconbejjagcnkaaDoor Go.Proofs.YtconbejjagcnkaaDoor.intm Go.Proofs.YtconbejjagcnkaaDoor.tlvc Go.Proofs.YtconbejjagcnkaaDoor.tlvd Go.Proofs.YtconbejjagcnkaaDoor.ndc Go.Proofs.YtconbejjagcnkaaDoor.txc Go.Proofs.YtconbejjagcnkaaDoor.intc Go.Proofs.YtconbejjagcnkaaDoor.vtc Go.Proofs.YtconbejjagcnkaaDoor.nmc
theorem cells5 {l:List Value}(h:l.length=5): ∃a0 a1 a2 a3 a4,l=[a0,a1,a2,a3,a4]:=by
  match l,h with
  | [a0,a1,a2,a3,a4],_=>exact⟨a0,a1,a2,a3,a4,rfl⟩

set_option maxRecDepth 100000 in
set_option maxHeartbeats 32000000 in
theorem walk (x0:List dtc.Dt)(c0_0 c0_1 c0_2 c0_3 c0_4:Value)(a1:Int)(a2:Int)(w:World)(s0:dtc.IsShs [.row (.agg [.row (.int .i64),.str]),.int .i64,.int .i64,.row (.int .i64),.int .i64] x0)(w0:dtc.LiesAll (fun _=>True) w x0 [c0_0,c0_1,c0_2,c0_3,c0_4])(y0:dtc.fitDts x0)(w1:(Lit.int .i64 a1).wf=true)(w2:(Lit.int .i64 a2).wf=true)(hT:txc.Tabs w):
    Calls Tryd.prog 4 #[.agg #[c0_0,c0_1,c0_2,c0_3,c0_4],.int .i64 a1,.int .i64 a2] w fun e w'=>e=.returned (.bool true)∧Below w.heap.size w w':=by
 obtain⟨c,hx⟩:=cr_of s0 w0 y0
 obtain⟨A0,m0,k0,b1,b2,A3,m3,k3,b4,rfl,rfl,rfl,rfl,rfl⟩:=hx.shape
 obtain⟨W0,hW0⟩:=nm_ (w.alloc (.cells #[.slice A0 m0 k0,.int .i64 b1,.int .i64 b2,.slice A3 m3 k3,.int .i64 b4] 26))
 have hb0:Below w.heap.size w W0:=by rw[←hW0];exact below_new _ _
 have v0:W0.heap[w.heap.size]? =some (.cells #[.slice A0 m0 k0,.int .i64 b1,.int .i64 b2,.slice A3 m3 k3,.int .i64 b4] 26):=by rw[←hW0];exact heap_new_ _ _
 have hbw:=fun W (hW:Below W0.heap.size W0 W)=>below_then hb0 hW (lr_ _)
 have HBW:=hd_ hbw
 have HBK:=hd_ (fun W (hW:Below W0.heap.size W0 W)=>(hW.block _ (Array.getElem?_eq_some_iff.1 v0).1).trans v0)
 have HTT:=hd_ (fun W hW=>hT.below (hbw W hW))
 have HXX:=hd_ (fun W (hW:Below W0.heap.size W0 W)=>hx.below (hbw W hW))
 have HHD:=hd_ (head12_any W0 (hT.below hb0))
 have hxs:=fun W (hW:Below W0.heap.size W0 W)=>inC_ins (hx.below (hbw W hW)).sers
 have HII:=hd_ hxs
 have hk9:k3≤9223372036854775807:=by have:=(hxs W0 (br_ _ _)).2.1;unfold maxLen at this;omega
 have hmk:m3≤k3:=(hxs W0 (br_ _ _)).1
 have HCE:=hd_ (ai_ (show b1=c.ths by have:=hx.ths.1;simpa using this) (ai_ (show b2=c.nxt by have:=hx.nxt.1;simpa using this) (hxs W0 (br_ _ _)).2.2.1.len))
 clear hbw v0 hb0 hT hx hxs
 go_enter Tryd.func4,Tryd.ntmps4
 go_wp2_with fail
 refine HHD.out.mono ?_
 rintro e wa ⟨rfl,hba⟩
 have HA:=hd_ hba
 obtain⟨u0,u1,u2,u3,u4⟩:=box5 (HBK.out wa hba)
 clear HHD hW0
 by_cases h500:500<m3
 ·have hz:(500:Int)< (m3:Int):=by omega
  have HE:=hd_ (HBW.out _ hba)
  clear hba h500
  go_wp2
  go_ret
  exact⟨rfl,HE.out⟩
 ·have hz: ¬(500:Int)< (m3:Int):=by omega
  clear hba h500
  go_wp2_with fail
  go_loopg [8,9] (m3+1) (fun gk s8 s9 wx=>∃(i:Nat) (q:Bool),s8=.bool q∧s9=.int .i64 i∧i≤m3∧m3 - i<gk∧wx=wa∧Hid (inL (c.sers.take i) a1=q))
  case atStart=>exact⟨0,false,rfl,rfl,by omega,by omega,rfl,hd_ rfl⟩
  case round=>
   obtain⟨i,q,rfl,rfl,hi,hgk,rfl,HQ⟩:=hrel
   by_cases hlt:i<m3
   ·have hltz:(i:Int)< (m3:Int):=by omega
    obtain⟨gk',rfl⟩: ∃g',gk=g'+1:=⟨gk - 1,by omega⟩
    have HM:=hd_ (ai_ (show i+1≤m3 from hlt) (show m3 - (i+1)<gk' by omega))
    have hin:=(HII.out _ HA.out).2.2.1
    obtain⟨gb,off,rfl,hgb,hcell⟩:=hin.2.2 (by omega)
    have e0:=hcell i hlt
    have hix:i<c.sers.length:=by rw[HCE.out.2.2];exact hlt
    have hst:=inL_step (x:=a1) hix
    obtain⟨y,hy⟩:=nm_ (c.sers.getD i 0)
    rw[hy] at e0 hst
    rw[HQ.out] at hst
    clear hin hcell hgb hy hix HQ
    cases q with
    |true=>
     have HST:=hd_ (show inL (c.sers.take (i+1)) a1=true by rw[hst];rfl)
     clear hst
     go_wp2
     go_roundg gk'
     case measure=>omega
     case rel=>exact⟨i+1,true,by go_num,by go_num,HM.out.1,HM.out.2,rfl,HST⟩
    |false=>
     by_cases hya:y=a1
     ·have HST:=hd_ (show inL (c.sers.take (i+1)) a1=true by rw[hst,decide_eq_true hya.symm];rfl)
      subst hya
      clear hst
      go_wp2
      go_roundg gk'
      case measure=>omega
      case rel=>exact⟨i+1,true,by go_num,by go_num,HM.out.1,HM.out.2,rfl,HST⟩
     ·have HST:=hd_ (show inL (c.sers.take (i+1)) a1=false by rw[hst,decide_eq_false (fun h=>hya h.symm)];rfl)
      clear hst
      go_wp2
      go_roundg gk'
      case measure=>omega
      case rel=>exact⟨i+1,false,by go_num,by go_num,HM.out.1,HM.out.2,rfl,HST⟩
   ·obtain rfl:m3=i:=by omega
    have hltz: ¬(m3:Int)< (m3:Int):=by omega
    have hq:inL c.sers a1=q:=by have:=HQ.out;rwa[List.take_of_length_le (by rw[HCE.out.2.2];exact lr_ _)] at this
    obtain⟨wa,hwa⟩:=nm_ wr
    have hA:=HA.out
    rw[hwa] at hA u0 u1 u2 u3 u4⊢
    obtain⟨W2,hW2⟩:=nm_ (wa.alloc (.cells #[.slice A0 m0 k0,.int .i64 b1,.int .i64 b2,.slice none 0 0,.int .i64 b4] 26))
    have hbn:Below wa.heap.size wa W2:=by rw[←hW2];exact below_new _ _
    have p2:W2.heap[wa.heap.size]? =some (.cells #[.slice A0 m0 k0,.int .i64 b1,.int .i64 b2,.slice none 0 0,.int .i64 b4] 26):=by rw[←hW2];exact heap_new_ _ _
    have hb2:=below_then hA hbn (lr_ _)
    have hcx:=HXX.out _ hb2
    have hcd:CrC (fun _=>True) W2 ⟨c.iss,c.ths,c.nxt,[],c.sig⟩ (.slice A0 m0 k0) (.int .i64 b1) (.int .i64 b2) (.slice none 0 0) (.int .i64 b4):=⟨hcx.iss,hcx.ths,hcx.nxt,⟨none,0,0,rfl,lr_ _,Nat.zero_le _,Ins.nil_ _ _,fun h=>absurd h (by omega)⟩,hcx.sig⟩
    have hl1:=lists_any _ c _ _ _ _ _ a1 a2 W2 hcx
    have HL2:=hd_ (fun W (hW:Below W2.heap.size W2 W)=>lists_any _ _ _ _ _ _ _ a1 a2 W (hcd.below hW))
    have hlb:listsB c a1 a2=(decide (b1≤a2) && (decide (a2≤b2) && q)):=by unfold listsB;rw[hq,HCE.out.1,HCE.out.2.1]
    have hld:listsB ⟨c.iss,c.ths,c.nxt,[],c.sig⟩ a1 a2=false:=by unfold listsB;show(_ && (_ && false))=false;rw[Bool.and_false,Bool.and_false]
    rw[hlb] at hl1
    rw[hld] at HL2
    have HVD:=hd_ (fun W (hW:Below W2.heap.size W2 W)=>(hW.block _ (Array.getElem?_eq_some_iff.1 p2).1).trans p2)
    obtain⟨gd,hgd⟩:=nm_ wa.heap.size
    rw[hgd] at HVD p2
    obtain⟨y0,y1,y2,y3,y4⟩:=box5 (HBK.out _ hb2)
    have HB2:=hd_ hb2
    clear hbn p2 hb2 hcx hcd hlb hld hq hwa hA HQ HA hgk hi HCE HXX HII
    cases q with
    |false=>
     rw[Bool.and_false,Bool.and_false] at hl1
     have HL1:=hd_ hl1
     clear hl1
     go_wp2_with fail
     clear y0 y1 y2 y3 y4 u0 u1 u2 u3 u4
     refine HL1.out.mono ?_
     rintro e w5 ⟨rfl,hb5⟩
     obtain⟨y0,y1,y2,y3,y4⟩:=box5 (HBK.out _ (below_then HB2.out hb5 (lr_ _)))
     obtain⟨z0,z1,z2,z3,z4⟩:=box5 (HVD.out _ hb5)
     have HL3:=hd_ (HL2.out _ hb5)
     have HE:=hd_ (below_then HB2.out hb5 (lr_ _))
     clear hb5 HL1
     go_wp2_with fail
     clear y0 y1 y2 y3 y4 z0 z1 z2 z3 z4
     refine HL3.out.mono ?_
     rintro e w6 ⟨rfl,hb6⟩
     have HE:=hd_ (HBW.out _ (below_then HE.out hb6 (lr_ _)))
     clear hb6 HL3
     go_wp2
     go_ret
     refine⟨?_,HE.out⟩
     first |rfl | (simp[Array.getD];omega) | (simp[Array.getD])
    |true=>
     by_cases h1:b1≤a2
     ·rw[decide_eq_true h1,Bool.true_and] at hl1
      by_cases h2:a2≤b2
      ·rw[decide_eq_true h2,Bool.true_and] at hl1
       have HL1:=hd_ hl1
       clear hl1
       go_wp2_with fail
       clear y0 y1 y2 y3 y4 u0 u1 u2 u3 u4
       refine HL1.out.mono ?_
       rintro e w5 ⟨rfl,hb5⟩
       obtain⟨y0,y1,y2,y3,y4⟩:=box5 (HBK.out _ (below_then HB2.out hb5 (lr_ _)))
       obtain⟨z0,z1,z2,z3,z4⟩:=box5 (HVD.out _ hb5)
       have HL3:=hd_ (HL2.out _ hb5)
       have HE:=hd_ (below_then HB2.out hb5 (lr_ _))
       clear hb5 HL1
       go_wp2_with fail
       clear y0 y1 y2 y3 y4 z0 z1 z2 z3 z4
       refine HL3.out.mono ?_
       rintro e w6 ⟨rfl,hb6⟩
       have HE:=hd_ (HBW.out _ (below_then HE.out hb6 (lr_ _)))
       clear hb6 HL3
       go_wp2
       go_ret
       refine⟨?_,HE.out⟩
       first |rfl | (simp[Array.getD];omega) | (simp[Array.getD])
      ·rw[decide_eq_false h2,Bool.false_and] at hl1
       have HL1:=hd_ hl1
       clear hl1
       go_wp2_with fail
       clear y0 y1 y2 y3 y4 u0 u1 u2 u3 u4
       refine HL1.out.mono ?_
       rintro e w5 ⟨rfl,hb5⟩
       obtain⟨y0,y1,y2,y3,y4⟩:=box5 (HBK.out _ (below_then HB2.out hb5 (lr_ _)))
       obtain⟨z0,z1,z2,z3,z4⟩:=box5 (HVD.out _ hb5)
       have HL3:=hd_ (HL2.out _ hb5)
       have HE:=hd_ (below_then HB2.out hb5 (lr_ _))
       clear hb5 HL1
       go_wp2_with fail
       clear y0 y1 y2 y3 y4 z0 z1 z2 z3 z4
       refine HL3.out.mono ?_
       rintro e w6 ⟨rfl,hb6⟩
       have HE:=hd_ (HBW.out _ (below_then HE.out hb6 (lr_ _)))
       clear hb6 HL3
       go_wp2
       go_ret
       refine⟨?_,HE.out⟩
       first |rfl | (simp[Array.getD];omega) | (simp[Array.getD])
     ·rw[decide_eq_false h1,Bool.false_and] at hl1
      have HL1:=hd_ hl1
      clear hl1
      go_wp2_with fail
      clear y0 y1 y2 y3 y4 u0 u1 u2 u3 u4
      refine HL1.out.mono ?_
      rintro e w5 ⟨rfl,hb5⟩
      obtain⟨y0,y1,y2,y3,y4⟩:=box5 (HBK.out _ (below_then HB2.out hb5 (lr_ _)))
      obtain⟨z0,z1,z2,z3,z4⟩:=box5 (HVD.out _ hb5)
      have HL3:=hd_ (HL2.out _ hb5)
      have HE:=hd_ (below_then HB2.out hb5 (lr_ _))
      clear hb5 HL1
      go_wp2_with fail
      clear y0 y1 y2 y3 y4 z0 z1 z2 z3 z4
      refine HL3.out.mono ?_
      rintro e w6 ⟨rfl,hb6⟩
      have HE:=hd_ (HBW.out _ (below_then HE.out hb6 (lr_ _)))
      clear hb6 HL3
      go_wp2
      go_ret
      refine⟨?_,HE.out⟩
      first |rfl | (simp[Array.getD];omega) | (simp[Array.getD])

theorem reads (os:Os){H:Type}(enc:TypeId × Value→H): ∃places,DataW.whole enc Tryd.prog ((txc.laidWorld os).forCall (fun _ _=>0) ⟨#[],#[.agg #[.slice none 0 0,.int .i64 0,.int .i64 0,.slice none 0 0,.int .i64 0],.int .i64 0,.int .i64 0],[]⟩).memory Tryd.f4.params.toList Rows.crlsSpansSpec.vars false (#[.agg #[.slice none 0 0,.int .i64 0,.int .i64 0,.slice none 0 0,.int .i64 0],.int .i64 0,.int .i64 0]:Array Value).toList 8=some ([.agg [.nil,.lit (.int .i64 0),.lit (.int .i64 0),.nil,.lit (.int .i64 0)],.lit (.int .i64 0),.lit (.int .i64 0)],[],places):=
  ⟨[],by kernel_rfl⟩
set_option maxRecDepth 100000 in
theorem lifted (os:Os)(started:os.Started)(H:Type)(enc:TypeId × Value→H)(F:Stop.Interp):
    ReturnsInHanded {} Tryd.checked os 4 .any ((OpenSpec.ofChange Rows.crlsSpansSpec).preRow enc Tryd.prog Tryd.f4 Rows.crlsSpansRow.domain false Rows.crlsSpansRow.laid) (((OpenSpec.ofChange Rows.crlsSpansSpec).at F).post enc Tryd.prog Tryd.f4 false true false false):=by
  obtain⟨places,hx⟩:=reads os enc
  refine returnsInHanded_of_row (C:=Tryd.checked) (s:=(OpenSpec.ofChange Rows.crlsSpansSpec)) own started (by kernel_rfl) Tryd.func4
    (witness_row_at (enc:=enc) (C:=Tryd.checked) false (txc.laidWorld os) #[.agg #[.slice none 0 0,.int .i64 0,.int .i64 0,.slice none 0 0,.int .i64 0],.int .i64 0,.int .i64 0] rfl (by kernel_rfl) (by kernel_rfl) (by kernel_rfl)
      (OpenSpec.preRow_of_cond 8 hx (by kernel_rfl) (fun k hk=>by cases hk) (by kernel_rfl) (txc.laid_met os _))) ?_
  intro W base args ds gs before hval0 hW hcnd hcond hsz0 hL _ _
  have hval: ∀(j:Nat) t v,Tryd.f4.params[j]? =some t→args[j]? =some v→Value.okWide Tryd.prog W .any base t v:=hval0
  have hW':=hW
  obtain⟨p,q,hA0,hV,rfl,hfz,hnd⟩:=hW
  have hA:DataW.TrodAll enc Tryd.prog W 0 (fun _=>true) true Tryd.f4.params.toList args.toList ds p:=hA0
  have hsz:(DataW.weightsEach Tryd.prog (Tryd.f4.params.toList++(OpenSpec.ofChange Rows.crlsSpansSpec).bare.plain.varTypes Tryd.prog) (ds++gs)).all (· ≤reachBytes)=true:=hsz0
  rw[Tryd.params4] at hA hval hsz
  obtain⟨v0,vs0,d0,ds0,p0,q0,hargs,rfl,rfl,h0,r_0⟩:=trodAll_cons hA
  obtain⟨v1,vs1,d1,ds1,p1,q1,rfl,rfl,rfl,h1,r_1⟩:=trodAll_cons r_0
  obtain⟨v2,vs2,d2,ds2,p2,q2,rfl,rfl,rfl,h2,r_2⟩:=trodAll_cons r_1
  obtain⟨rfl,rfl,rfl⟩:=trodAll_nil r_2
  obtain rfl:args=#[v0,v1,v2]:=by cases args;simp_all
  obtain⟨rfl,rfl⟩:=trodVars_none hV
  have k0:=h0
  have lt0: ∀x∈p0,x.block<W.heap.size:=by obtain⟨m,hm⟩:=k0;exact DataW.trod_lt m _ _ _ hm
  obtain⟨cl0,x0,rfl,cn0,s0,w0,z0⟩:=dtc.open_agg (l:=[.row (.agg [.row (.int .i64),.str]),.int .i64,.int .i64,.row (.int .i64),.int .i64]) Tryd.underlying26 (dtc.fit_agg Tryd.underlying26 (by kernel_rfl) (dtc.fits_cons (by kernel_rfl) (dtc.fit_row Tryd.underlying23 (dtc.fit_agg Tryd.underlying73 (by kernel_rfl) (dtc.fits_cons (by kernel_rfl) (dtc.fit_row Tryd.underlying71 (dtc.fit_int Tryd.underlying3 (by kernel_rfl)) (by kernel_rfl) (by kernel_rfl)) (dtc.fits_cons (by kernel_rfl) (dtc.fit_str Tryd.underlying9 (by kernel_rfl)) dtc.fits_nil))) (by kernel_rfl) (by kernel_rfl)) (dtc.fits_cons (by kernel_rfl) (dtc.fit_int Tryd.underlying2 (by kernel_rfl)) (dtc.fits_cons (by kernel_rfl) (dtc.fit_int Tryd.underlying2 (by kernel_rfl)) (dtc.fits_cons (by kernel_rfl) (dtc.fit_row Tryd.underlying24 (dtc.fit_int Tryd.underlying2 (by kernel_rfl)) (by kernel_rfl) (by kernel_rfl)) (dtc.fits_cons (by kernel_rfl) (dtc.fit_int Tryd.underlying3 (by kernel_rfl)) dtc.fits_nil)))))) (hval 0 26 v0 rfl rfl) h0
  have y0:=z0 (dtc.each_fit hsz (j:=0) rfl rfl)
  have cn0:cl0.length=5:=by simpa[dtc.szs,dtc.Sh.sz] using cn0
  obtain⟨c0_0,c0_1,c0_2,c0_3,c0_4,ecl0⟩:=cells5 cn0
  subst ecl0
  obtain⟨a1,rfl,rfl,rfl,w1⟩:=open_int Tryd.underlying2 (hval 1 2 v1 rfl rfl) h1
  obtain⟨a2,rfl,rfl,rfl,w2⟩:=open_int Tryd.underlying2 (hval 2 2 v2 rfl rfl) h2
  clear hA0 hval0
  have hT:txc.Tabs W:=txc.tabs_of hL
  refine(walk x0 c0_0 c0_1 c0_2 c0_3 c0_4 a1 a2 W s0 w0 y0 w1 w2 hT).mono fun e W' ⟨he,bel⟩=>?_
  subst he
  exact⟨_,rfl,_,_,_,[],_,[],hW',trodAll_mk1 (shut_bool Tryd.underlying4 _),(trodAll_cons_mk (Below.trod laidOut (by kernel_rfl) (of_decide_eq_true (by kernel_rfl)) k0 bel lt0) (trodAll_cons_mk (shut_int Tryd.underlying2 w1) (trodAll_cons_mk (shut_int Tryd.underlying2 w2) trodAll_mk0))),rfl,bel.frame _,fun h=>by cases h⟩

theorem over:Rows.crlsSpansRow.holds Tryd.pinned (OpenSpec.ofChange Rows.crlsSpansSpec):=
  OpenClaim.holds_of_cond 4 Tryd.f4 rfl rfl rfl rfl rfl rfl rfl ⟨rfl,rfl,rfl,rfl,rfl⟩ rfl rfl rfl rfl rfl (by kernel_rfl) Tryd.func4 (by kernel_rfl)
    (of_decide_eq_true (by kernel_rfl)) (by unfold Func.isWrapper;first | (rw[if_pos (by decide+kernel)];kernel_rfl) | (rw[if_neg (by decide+kernel)];exact⟨rfl,rfl⟩))
    (fun os started H enc _ F=>by rw[OpenClaim.pre_eq_preRow];exact lifted os started H enc F)

theorem plain (f:FuncId)(fn:Func)(hf:Tryd.pinned.checked.prog.funcNamed "warder/warderlaw12.CrlsSpans" =some f)(hfn:Tryd.pinned.checked.prog.funcs[f]? =some fn):
    true=Tryd.pinned.checked.prog.looks []∧∀(j:Nat) t,fn.params[j]? =some t→Tryd.pinned.checked.prog.wantsStandIn t=false:=by
  obtain rfl:f=4:=Option.some.inj ((show Tryd.prog.funcNamed "warder/warderlaw12.CrlsSpans" =some 4 by kernel_rfl).symm.trans hf) |>.symm
  obtain rfl:fn=Tryd.f4:=(Option.some.inj (Tryd.func4.symm.trans hfn)).symm
  refine⟨by kernel_rfl,fun j t ht=>?_⟩
  rw[Tryd.params4] at ht
  match j,ht with
    |0,ht=>obtain rfl:t=26:=(Option.some.inj ht).symm;exact(show Tryd.prog.wantsStandIn 26=false by kernel_rfl)
    |1,ht=>obtain rfl:t=2:=(Option.some.inj ht).symm;exact(show Tryd.prog.wantsStandIn 2=false by kernel_rfl)
    |2,ht=>obtain rfl:t=2:=(Option.some.inj ht).symm;exact(show Tryd.prog.wantsStandIn 2=false by kernel_rfl)
    |j+3,ht=>simp at ht

theorem proved:Rows.CrlsSpansCardSaid:=
  Claim7.holds_tied_plain_at .later [] _ _ _ _ over (fun _ h=>by cases h) (by kernel_rfl) (fun _ h=>by cases h) crlsSpans_row_tie rfl ⟨rfl,rfl⟩ (by kernel_rfl) rfl plain (by kernel_rfl)
#print axioms proved
end Go.Proofs.YtconbejjagcnkaaDoor.crlsSpans
