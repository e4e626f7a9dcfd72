/- The law SubtreesNarrow of warderlaw13 answers true for every space, name, list of permitted and list of excluded names, and leaves its arguments as they were; where what it reads is of bulk at most 1048576 (the second form's bound). -/
import Derived.Test.YtclmaglkekkigaaRows
import Derived.WalkKit
import Derived.ProofKit
import Derived.OpenShut
import Derived.ChangeOld
import Derived.Below
import Derived.SizedLaws
import Derived.JoinedCond
import Derived.Deep.CondSized
import Derived.Test.YtclmaglkekkigaaOi
namespace Go.Proofs.Ytclmaglkekkigaa.subtreesNarrowUpto
open Go.ChangeShapes Go.WideShapes Go.ChangeAt Go.RowKit
set_option linter.unusedVariables false

theorem own:ownKnob Try.prog.godebug=none:=by kernel_rfl
theorem laidOut:laidOutB Try.prog=true:=by kernel_rfl

open Go.Proofs.Ytclmaglkekkigaa.tlvc Go.Proofs.Ytclmaglkekkigaa.ndc Go.Proofs.Ytclmaglkekkigaa.txc Go.Proofs.Ytclmaglkekkigaa.nmc

set_option maxRecDepth 100000 in
set_option maxHeartbeats 16000000 in
theorem walk (a0:Option Addr)(l0 c0:Nat)(b0:Option Addr)(m0 d0:Nat)(P0:List (List (List nmc.At)))(X0:List (List nmc.At))(a1:Option Addr)(len1 cap1:Nat)(x1:List nmc.At)(a2:Option Addr)(len2 cap2:Nat)(x2:List (List nmc.At))(a3:Option Addr)(len3 cap3:Nat)(x3:List (List nmc.At))(w:World)(w0:nmc.SpC (fun _=>True) w P0 X0 (.slice a0 l0 c0) (.slice b0 m0 d0))(s0:nmc.SmP P0)(t0:nmc.SmL X0)(w1:nmc.LsC nmc.atE (fun _=>True) w x1 (.slice a1 len1 cap1))(s1:nmc.SmN x1)(w2:nmc.LsC (nmc.lsE nmc.atE) (fun _=>True) w x2 (.slice a2 len2 cap2))(s2:nmc.SmL x2)(w3:nmc.LsC (nmc.lsE nmc.atE) (fun _=>True) w x3 (.slice a3 len3 cap3))(s3:nmc.SmL x3):
    Calls Try.prog 4 #[.agg #[.slice a0 l0 c0,.slice b0 m0 d0],.slice a1 len1 cap1,.slice a2 len2 cap2,.slice a3 len3 cap3] w fun e w'=>e=.returned (.bool true)∧Below w.heap.size w w':=by
  obtain⟨W0,hW0⟩:=nm_ (w.alloc (.cells #[.slice a0 l0 c0,.slice b0 m0 d0] 25))
  have hb0:Below w.heap.size w W0:=by rw[←hW0];exact below_new _ _
  have p0:W0.heap[w.heap.size]? =some (.cells #[.slice a0 l0 c0,.slice b0 m0 d0] 25):=by rw[←hW0];exact heap_new_ _ _
  have HHD:=hd_ (head13_any W0)
  have HX:=hd_ (And.intro w0 (And.intro w1 (And.intro w2 (And.intro w3 (And.intro s0 (And.intro t0 (And.intro s1 (And.intro s2 s3))))))))
  have HB:=hd_ (And.intro hb0 p0)
  have h92:cap2≤9223372036854775807:=by have:=(ls4 w2).2.2.1;unfold maxLen at this;omega
  have h82:len2≤cap2:=(ls4 w2).2.1
  have h93:cap3≤9223372036854775807:=by have:=(ls4 w3).2.2.1;unfold maxLen at this;omega
  have h83:len3≤cap3:=(ls4 w3).2.1
  clear w0 w1 w2 w3 s0 s1 s2 s3 t0 hb0 p0
  go_enter Try.func4,Try.ntmps4
  go_wp2_with fail
  refine HHD.out.mono ?_
  rintro e wa ⟨rfl,hba⟩
  have hA:=below_then HB.out.1 hba (Nat.le_refl _)
  have pa:=(hba.block _ (Array.getElem?_eq_some_iff.1 HB.out.2).1).trans HB.out.2
  have e0:wa.cell? ⟨w.heap.size,0,none⟩=some (.slice a0 l0 c0):=(Lib.cell_of_heap pa _).trans rfl
  have e1:wa.cell? ⟨w.heap.size,1,none⟩=some (.slice b0 m0 d0):=(Lib.cell_of_heap pa _).trans rfl
  have HG:=hd_ (great_any (HX.out.1.below hA) (by have:=(ls4 HX.out.1.exclude).1;have:=HX.out.2.2.2.2.2.1.1;omega))
  have HA:=hd_ (And.intro hA pa)
  clear hba hA pa HHD HB
  go_wp2_with fail
  refine HG.out.mono ?_
  rintro e wg ⟨⟨gb,rfl⟩,hbg⟩
  have hA:=below_then HA.out.1 hbg (Nat.le_refl _)
  have pa:=(hbg.block _ (Array.getElem?_eq_some_iff.1 HA.out.2).1).trans HA.out.2
  clear hbg HG HA e0 e1
  cases gb with
  |true=>
   have HE:=hd_ hA
   clear hA pa
   go_wp2
   go_ret
   exact⟨rfl,HE.out⟩
  |false=>
   by_cases q1:500<len2
   · have z1:(500:Int)< (len2:Int):=by omega
     have HE:=hd_ hA
     clear hA pa
     go_wp2
     go_ret
     exact⟨rfl,HE.out⟩
   have z1: ¬(500:Int)< (len2:Int):=by omega
   by_cases q2:500<len3
   · have z2:(500:Int)< (len3:Int):=by omega
     have HE:=hd_ hA
     clear hA pa
     go_wp2
     go_ret
     exact⟨rfl,HE.out⟩
   have z2: ¬(500:Int)< (len3:Int):=by omega
   have e0:wg.cell? ⟨w.heap.size,0,none⟩=some (.slice a0 l0 c0):=(Lib.cell_of_heap pa _).trans rfl
   have e1:wg.cell? ⟨w.heap.size,1,none⟩=some (.slice b0 m0 d0):=(Lib.cell_of_heap pa _).trans rfl
   have HC:=allowed_any (HX.out.1.below hA) (HX.out.2.1.below hA) HX.out.2.2.2.2.2.2.1.tx (smP_tx HX.out.2.2.2.2.1 HX.out.2.2.2.2.2.1)
   obtain⟨al,hal⟩:=nm_ (allowedB unP P0 X0 x1)
   rw[hal] at HC
   have HC:=hd_ HC
   have HL:=hd_ hal
   have HY:=hd_ (And.intro hA pa)
   clear hA pa hal
   go_wp2_with fail
   refine HC.out.mono ?_
   rintro e w4 ⟨rfl,hb4⟩
   have HZ:=hd_ (And.intro (below_then HY.out.1 hb4 (Nat.le_refl _)) ((hb4.block _ (Array.getElem?_eq_some_iff.1 HY.out.2).1).trans HY.out.2))
   clear hb4 HY HC e0 e1
   have hl2:x2.length=len2:=(ls4 HX.out.2.2.1).1
   obtain⟨R1,hR1⟩:=nm_ (decide (x2.length=0) || amongB unP x1 x2)
   have HR1:=hd_ hR1
   have HS1:=hd_ (show((((len2:Int)==0):Bool) || amongB unP x1 (x2.drop 0))=R1 by
     rw[←hR1,List.drop_zero,hl2]
     congr 1
     by_cases h0:len2=0
     · subst h0;rfl
     · rw[decide_eq_false h0]
       simp only[beq_eq_false_iff_ne,ne_eq]
       omega)
   clear hl2 hR1
   go_wp2_with fail
   go_loopg [11,12] (len2+1) (fun gk s11 s12 wx=>∃(q:Bool) (k:Nat),s11=.bool q∧s12=.int .i64 k∧k≤len2∧len2 - k<gk∧Hid ((q || amongB unP x1 (x2.drop k))=R1∧Below w4.heap.size w4 wx))
   case atStart=>exact⟨_,0,rfl,rfl,by omega,by omega,hd_ ⟨HS1.out,Below.refl _ _⟩⟩
   case round=>
     obtain⟨q,k,rfl,rfl,hk,hgk,HI⟩:=hrel
     clear HS1
     have hB:=HI.out.2
     by_cases hlt:k<len2
     · have hltz:(k:Int)< (len2:Int):=by omega
       obtain⟨gk',rfl⟩: ∃g',gk=g'+1:=⟨gk - 1,by omega⟩
       have HN:=hd_ (And.intro (show k+1≤len2 from hlt) (show len2 - (k+1)<gk' by omega))
       cases q with
       |true=>
        have HB:=hd_ hB
        have HT:=hd_ (show true=R1 from HI.out.1)
        clear hB HI hgk
        go_wp2
        go_roundg gk'
        case measure=>omega
        case rel=>exact⟨true,k+1,rfl,by go_num,HN.out.1,HN.out.2,hd_ ⟨HT.out,HB.out⟩⟩
       |false=>
        have hB2:=below_then HZ.out.1 hB (Nat.le_refl _)
        obtain⟨hx,g,off,A1,l1,c1,rfl,hg,e2,h1⟩:=at_ls (HX.out.2.2.1.below hB2) hlt
        have HC:=hd_ (runder_ls (HX.out.2.1.below hB2) h1 HX.out.2.2.2.2.2.2.1.tx (HX.out.2.2.2.2.2.2.2.1.2 _ (List.getElem_mem hx)).tx)
        have hs:=among_step unP hx (show amongB unP x1 (x2.drop k)=R1 from HI.out.1)
        obtain⟨y,hy⟩:=nm_ (unP x1 x2[k])
        rw[hy] at HC hs
        have HS:=hd_ hs
        have HB:=hd_ hB
        clear hB hB2 h1 hs hy HI hg hx hgk
        go_wp2_with fail
        refine HC.out.mono ?_
        rintro e w' ⟨rfl,hb⟩
        have HB2:=hd_ (below_then HB.out hb (Nat.le_refl _))
        clear hb HC e2 HB
        go_wp2
        go_roundg gk'
        case measure=>omega
        case rel=>exact⟨y,k+1,by first |rfl |simp,by go_num,HN.out.1,HN.out.2,hd_ ⟨HS.out,HB2.out⟩⟩
     · obtain rfl:len2=k:=by omega
       have hltz: ¬(len2:Int)< (len2:Int):=by omega
       have hq:q=R1:=by
         have h:=HI.out.1
         rw[List.drop_eq_nil_of_le (by rw[(ls4 HX.out.2.2.1).1];omega)] at h
         rw[←h]
         exact(Bool.or_false q).symm
       subst hq
       have HZ2:=hd_ (And.intro (below_then HZ.out.1 hB (Nat.le_refl _)) ((hB.block _ (Array.getElem?_eq_some_iff.1 HZ.out.2).1).trans HZ.out.2))
       clear hB HI hgk HZ
       obtain⟨R2,hR2⟩:=nm_ (al && !amongB unP x1 x3)
       have HR2:=hd_ hR2
       have HS2:=hd_ (show(al && !amongB unP x1 (x3.drop 0))=R2 by rw[List.drop_zero];exact hR2)
       clear hR2
       go_wp2_with fail
       go_loopg [10,13] (len3+1) (fun gk s10 s13 wx=>∃(v:Bool) (k:Nat),s10=.bool v∧s13=.int .i64 k∧k≤len3∧len3 - k<gk∧Hid ((v && !amongB unP x1 (x3.drop k))=R2∧Below wr.heap.size wr wx))
       case atStart=>exact⟨_,0,rfl,rfl,by omega,by omega,hd_ ⟨HS2.out,Below.refl _ _⟩⟩
       case round=>
         obtain⟨v,k,rfl,rfl,hk2,hgk,HI⟩:=hrel
         clear HS2
         have hB:=HI.out.2
         by_cases hlt2:k<len3
         · have hltz2:(k:Int)< (len3:Int):=by omega
           obtain⟨gk',rfl⟩: ∃g',gk=g'+1:=⟨gk - 1,by omega⟩
           have HN:=hd_ (And.intro (show k+1≤len3 from hlt2) (show len3 - (k+1)<gk' by omega))
           cases v with
           |false=>
            have HB:=hd_ hB
            have HT:=hd_ (show false=R2 from HI.out.1)
            clear hB HI hgk
            go_wp2
            go_roundg gk'
            case measure=>omega
            case rel=>exact⟨false,k+1,rfl,by go_num,HN.out.1,HN.out.2,hd_ ⟨HT.out,HB.out⟩⟩
           |true=>
            have hB2:=below_then HZ2.out.1 hB (Nat.le_refl _)
            obtain⟨hx,g,off,A1,l1,c1,rfl,hg,e2,h1⟩:=at_ls (HX.out.2.2.2.1.below hB2) hlt2
            have HC:=hd_ (runder_ls (HX.out.2.1.below hB2) h1 HX.out.2.2.2.2.2.2.1.tx (HX.out.2.2.2.2.2.2.2.2.2 _ (List.getElem_mem hx)).tx)
            have hs:=among_step unP hx (show amongB unP x1 (x3.drop k)=amongB unP x1 (x3.drop k) from rfl)
            have hs2:(!amongB unP x1 (x3.drop k))=R2:=HI.out.1
            rw[←hs,Bool.not_or] at hs2
            obtain⟨y,hy⟩:=nm_ (unP x1 x3[k])
            rw[hy] at HC hs2
            have HS:=hd_ hs2
            have HB:=hd_ hB
            clear hB hB2 h1 hs hs2 hy HI hg hx hgk
            go_wp2_with fail
            refine HC.out.mono ?_
            rintro e w' ⟨rfl,hb⟩
            have HB2:=hd_ (below_then HB.out hb (Nat.le_refl _))
            clear hb HC e2 HB
            go_wp2
            go_roundg gk'
            case measure=>omega
            case rel=>exact⟨!y,k+1,by first |rfl |simp,by go_num,HN.out.1,HN.out.2,hd_ ⟨HS.out,HB2.out⟩⟩
         · obtain rfl:len3=k:=by omega
           have hltz2: ¬(len3:Int)< (len3:Int):=by omega
           have hv:v=R2:=by
             have h:=HI.out.1
             rw[List.drop_eq_nil_of_le (by rw[(ls4 HX.out.2.2.2.1).1];omega)] at h
             rw[←h]
             exact(Bool.and_true v).symm
           subst hv
           have h5:=below_then HZ2.out.1 hB (Nat.le_refl _)
           have p5:=(hB.block _ (Array.getElem?_eq_some_iff.1 HZ2.out.2).1).trans HZ2.out.2
           have f0:wr.cell? ⟨w.heap.size,0,none⟩=some (.slice a0 l0 c0):=(Lib.cell_of_heap p5 _).trans rfl
           have f1:wr.cell? ⟨w.heap.size,1,none⟩=some (.slice b0 m0 d0):=(Lib.cell_of_heap p5 _).trans rfl
           have HC:=hd_ (narrow_any (HX.out.1.below h5) (HX.out.2.2.1.below h5) (HX.out.2.2.2.1.below h5) HX.out.2.2.2.2.1 HX.out.2.2.2.2.2.1 HX.out.2.2.2.2.2.2.2.1 HX.out.2.2.2.2.2.2.2.2)
           have HV:=hd_ h5
           clear hB HI hgk HZ2 h5 p5
           go_wp2_with fail
           refine HC.out.mono ?_
           rintro e w6 ⟨hb6,_,A6,l6,c6,B6,m6,d6,rfl,hS⟩
           have hn:=narrow_allowed unP P0 X0 x2 x3 x1
           rw[HL.out,HR2.out,HR1.out] at hn
           have h6:=below_then HV.out hb6 (Nat.le_refl _)
           have HD:=allowed_any hS (HX.out.2.1.below h6) HX.out.2.2.2.2.2.2.1.tx (narrow_tx HX.out.2.2.2.2.1 HX.out.2.2.2.2.2.1 HX.out.2.2.2.2.2.2.2.1 HX.out.2.2.2.2.2.2.2.2)
           rw[hn] at HD
           have HD:=hd_ HD
           have H6:=hd_ h6
           clear hb6 hS hn h6 HC HV f0 f1
           go_wp2_with fail
           refine HD.out.mono ?_
           rintro e w7 ⟨rfl,hb7⟩
           have HE:=hd_ (below_then H6.out hb7 (Nat.le_refl _))
           clear hb7 HD H6
           cases v<;>cases q
           all_goals
             go_wp2
             go_ret
             exact⟨rfl,HE.out⟩

set_option maxRecDepth 100000 in
theorem lifted (os:Os)(started:os.Started)(H:Type)(enc:TypeId × Value→H)(F:Stop.Interp):
    ReturnsInHanded {} Try.checked os 4 .any ((Rows.OpenSpec.upto Rows.subtreesNarrowSpec).pre6 enc Try.prog Try.f4 Rows.subtreesNarrowUptoRow.domain false) (((Rows.OpenSpec.upto Rows.subtreesNarrowSpec).at F).post enc Try.prog Try.f4 false true false false):=by
  refine returnsInHanded_of_cond_sized (C:=Try.checked) (s:=Rows.OpenSpec.upto Rows.subtreesNarrowSpec) (k:=Rows.uptoSmall) rfl own started (by kernel_rfl) Try.func4
    (OpenSpec.witness (enc:=enc) (C:=Try.checked) (s:=Rows.OpenSpec.upto Rows.subtreesNarrowSpec) (k:=Rows.uptoSmall) rfl false ⟨#[],#[.agg #[.slice none 0 0,.slice none 0 0],.slice none 0 0,.slice none 0 0,.slice none 0 0],[]⟩ 8 (by kernel_rfl) (by kernel_rfl) (by kernel_rfl)
      (x:=([.agg [.nil,.nil],.nil,.nil,.nil],[],[])) (by kernel_rfl) rfl (by kernel_rfl)) ?_
  intro W base args ds gs before hval0 hW hcnd hk hsz0 _
  have hval: ∀(j:Nat) t v,Try.f4.params[j]? =some t→args[j]? =some v→Value.okWide Try.prog W .any base t v:=hval0
  have hW':=hW
  obtain⟨p,q,hA0,hV,rfl,hfz,hnd⟩:=hW
  have hA:DataW.TrodAll enc Try.prog W 0 (fun _=>true) true Try.f4.params.toList args.toList ds p:=hA0
  have hsz:(DataW.weightsEach Try.prog (Try.f4.params.toList++(Rows.OpenSpec.upto Rows.subtreesNarrowSpec).bare.plain.varTypes Try.prog) (ds++gs)).all (· ≤reachBytes)=true:=hsz0
  rw[Try.params4] at hA hval hsz
  obtain⟨v0,vs0,d0,ds0,p0,q0,hargs,rfl,rfl,h0,r_0⟩:=trodAll_cons hA
  obtain⟨v1,vs1,d1,ds1,p1,q1,rfl,rfl,rfl,h1,r_1⟩:=trodAll_cons r_0
  obtain⟨v2,vs2,d2,ds2,p2,q2,rfl,rfl,rfl,h2,r_2⟩:=trodAll_cons r_1
  obtain⟨v3,vs3,d3,ds3,p3,q3,rfl,rfl,rfl,h3,r_3⟩:=trodAll_cons r_2
  obtain⟨rfl,rfl,rfl⟩:=trodAll_nil r_3
  obtain rfl:args=#[v0,v1,v2,v3]:=by cases args;simp_all
  obtain⟨rfl,rfl⟩:=trodVars_none hV
  have k0:=h0
  have lt0: ∀x∈p0,x.block<W.heap.size:=by obtain⟨m,hm⟩:=k0;exact DataW.trod_lt m _ _ _ hm
  obtain⟨cs0,rfl,_⟩:=okWide_struct Try.underlying25 (hval 0 25 v0 rfl rfl)
  obtain⟨z0,i0,u0,g0,y0⟩:=dtc.open_shS (s:=.agg [.row (.row (.row (.agg [.row (.int .i64),.str]))),.row (.row (.agg [.row (.int .i64),.str]))]) (dtc.fit_agg Try.underlying25 (by kernel_rfl) (dtc.fits_cons (by kernel_rfl) (dtc.fit_row Try.underlying22 (dtc.fit_row Try.underlying23 (dtc.fit_row Try.underlying27 (dtc.fit_agg Try.underlying35 (by kernel_rfl) (dtc.fits_cons (by kernel_rfl) (dtc.fit_row Try.underlying33 (dtc.fit_int Try.underlying3 (by kernel_rfl)) (by kernel_rfl) (by kernel_rfl)) (dtc.fits_cons (by kernel_rfl) (dtc.fit_str Try.underlying9 (by kernel_rfl)) dtc.fits_nil))) (by kernel_rfl) (by kernel_rfl)) (by kernel_rfl) (by kernel_rfl)) (by kernel_rfl) (by kernel_rfl)) (dtc.fits_cons (by kernel_rfl) (dtc.fit_row Try.underlying23 (dtc.fit_row Try.underlying27 (dtc.fit_agg Try.underlying35 (by kernel_rfl) (dtc.fits_cons (by kernel_rfl) (dtc.fit_row Try.underlying33 (dtc.fit_int Try.underlying3 (by kernel_rfl)) (by kernel_rfl) (by kernel_rfl)) (dtc.fits_cons (by kernel_rfl) (dtc.fit_str Try.underlying9 (by kernel_rfl)) dtc.fits_nil))) (by kernel_rfl) (by kernel_rfl)) (by kernel_rfl) (by kernel_rfl)) dtc.fits_nil))) h0
  obtain⟨a0,l0,c0,b0,m0,d0',ev0,P0,X0,w0,s0,t0⟩:=nmc.arg_sp i0 u0 (y0 (dtc.bulk_at hk (j:=0) rfl)) (g0.trans (by kernel_rfl)) rfl
  obtain rfl:cs0=#[.slice a0 l0 c0,.slice b0 m0 d0']:=by injection ev0
  obtain⟨a1,len1,cap1,rfl⟩:=okWide_slice Try.underlying27 (hval 1 27 v1 rfl rfl)
  have k1:=h1
  have lt1: ∀x∈p1,x.block<W.heap.size:=by obtain⟨m,hm⟩:=k1;exact DataW.trod_lt m _ _ _ hm
  obtain⟨z1,i1,u1,_,y1⟩:=dtc.open_shS (s:=.row (.agg [.row (.int .i64),.str])) (dtc.fit_row Try.underlying27 (dtc.fit_agg Try.underlying35 (by kernel_rfl) (dtc.fits_cons (by kernel_rfl) (dtc.fit_row Try.underlying33 (dtc.fit_int Try.underlying3 (by kernel_rfl)) (by kernel_rfl) (by kernel_rfl)) (dtc.fits_cons (by kernel_rfl) (dtc.fit_str Try.underlying9 (by kernel_rfl)) dtc.fits_nil))) (by kernel_rfl) (by kernel_rfl)) h1
  obtain⟨x1,w1,s1⟩:=nmc.arg_nm i1 u1 (y1 (dtc.bulk_at hk (j:=1) rfl)) rfl
  obtain⟨a2,len2,cap2,rfl⟩:=okWide_slice Try.underlying23 (hval 2 23 v2 rfl rfl)
  have k2:=h2
  have lt2: ∀x∈p2,x.block<W.heap.size:=by obtain⟨m,hm⟩:=k2;exact DataW.trod_lt m _ _ _ hm
  obtain⟨z2,i2,u2,_,y2⟩:=dtc.open_shS (s:=.row (.row (.agg [.row (.int .i64),.str]))) (dtc.fit_row Try.underlying23 (dtc.fit_row Try.underlying27 (dtc.fit_agg Try.underlying35 (by kernel_rfl) (dtc.fits_cons (by kernel_rfl) (dtc.fit_row Try.underlying33 (dtc.fit_int Try.underlying3 (by kernel_rfl)) (by kernel_rfl) (by kernel_rfl)) (dtc.fits_cons (by kernel_rfl) (dtc.fit_str Try.underlying9 (by kernel_rfl)) dtc.fits_nil))) (by kernel_rfl) (by kernel_rfl)) (by kernel_rfl) (by kernel_rfl)) h2
  obtain⟨x2,w2,s2⟩:=nmc.arg_nl i2 u2 (y2 (dtc.bulk_at hk (j:=2) rfl)) rfl
  obtain⟨a3,len3,cap3,rfl⟩:=okWide_slice Try.underlying23 (hval 3 23 v3 rfl rfl)
  have k3:=h3
  have lt3: ∀x∈p3,x.block<W.heap.size:=by obtain⟨m,hm⟩:=k3;exact DataW.trod_lt m _ _ _ hm
  obtain⟨z3,i3,u3,_,y3⟩:=dtc.open_shS (s:=.row (.row (.agg [.row (.int .i64),.str]))) (dtc.fit_row Try.underlying23 (dtc.fit_row Try.underlying27 (dtc.fit_agg Try.underlying35 (by kernel_rfl) (dtc.fits_cons (by kernel_rfl) (dtc.fit_row Try.underlying33 (dtc.fit_int Try.underlying3 (by kernel_rfl)) (by kernel_rfl) (by kernel_rfl)) (dtc.fits_cons (by kernel_rfl) (dtc.fit_str Try.underlying9 (by kernel_rfl)) dtc.fits_nil))) (by kernel_rfl) (by kernel_rfl)) (by kernel_rfl) (by kernel_rfl)) h3
  obtain⟨x3,w3,s3⟩:=nmc.arg_nl i3 u3 (y3 (dtc.bulk_at hk (j:=3) rfl)) rfl
  clear hA0 hval0
  refine(walk a0 l0 c0 b0 m0 d0' P0 X0 a1 len1 cap1 x1 a2 len2 cap2 x2 a3 len3 cap3 x3 W w0 s0 t0 w1 s1 w2 s2 w3 s3).mono fun e W' ⟨he,bel⟩=>?_
  subst he
  exact⟨_,rfl,_,_,_,[],_,[],hW',trodAll_mk1 (shut_bool Try.underlying4 _),(trodAll_cons_mk (Below.trod laidOut (by kernel_rfl) (of_decide_eq_true (by kernel_rfl)) k0 bel lt0) (trodAll_cons_mk (Below.trod laidOut (by kernel_rfl) (of_decide_eq_true (by kernel_rfl)) k1 bel lt1) (trodAll_cons_mk (Below.trod laidOut (by kernel_rfl) (of_decide_eq_true (by kernel_rfl)) k2 bel lt2) (trodAll_cons_mk (Below.trod laidOut (by kernel_rfl) (of_decide_eq_true (by kernel_rfl)) k3 bel lt3) trodAll_mk0)))),rfl,bel.frame _,fun h=>by cases h⟩

theorem over:Rows.subtreesNarrowUptoRow.holds Try.pinned (Rows.OpenSpec.upto Rows.subtreesNarrowSpec):=
  OpenClaim.holds_of_cond 4 Try.f4 rfl rfl rfl rfl rfl rfl rfl ⟨rfl,rfl,rfl,rfl,rfl⟩ rfl rfl rfl rfl rfl (by kernel_rfl) Try.func4 (by kernel_rfl)
    (of_decide_eq_true (by kernel_rfl)) (by unfold Func.isWrapper;first | (rw[if_pos (by decide+kernel)];kernel_rfl) | (rw[if_neg (by decide+kernel)];exact⟨rfl,rfl⟩))
    (fun os started H enc _ F=>lifted os started H enc F)

theorem proved:Rows.SubtreesNarrowUptoSaid:=over
#print axioms proved
end Go.Proofs.Ytclmaglkekkigaa.subtreesNarrowUpto
