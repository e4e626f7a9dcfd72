/- The law SubtreesAllow of warderlaw13 answers true for every space, name, list of permitted and list of excluded names, and leaves its arguments as they were; where what it reads is of bulk at most 1048576 (the second form's bound). -/
import Derived.Test.YtclmaglkekkigaaRows
import Derived.WalkKit
import Derived.ProofKit
import Derived.OpenShut
import Derived.ChangeOld
import Derived.Below
import Derived.SizedLaws
import Derived.JoinedCond
import Derived.Deep.CondSized
import Derived.Test.YtclmaglkekkigaaOl
namespace Go.Proofs.Ytclmaglkekkigaa.subtreesAllowUpto
open Go.ChangeShapes Go.WideShapes Go.ChangeAt Go.RowKit
set_option linter.unusedVariables false

theorem own:ownKnob Try.prog.godebug=none:=by kernel_rfl
theorem laidOut:laidOutB Try.prog=true:=by kernel_rfl

open Go.Proofs.Ytclmaglkekkigaa.tlvc Go.Proofs.Ytclmaglkekkigaa.ndc Go.Proofs.Ytclmaglkekkigaa.txc Go.Proofs.Ytclmaglkekkigaa.nmc

set_option maxRecDepth 100000 in
set_option maxHeartbeats 16000000 in
theorem walk (a0:Option Addr)(l0 c0:Nat)(b0:Option Addr)(m0 d0:Nat)(P0:List (List (List nmc.At)))(X0:List (List nmc.At))(a1:Option Addr)(len1 cap1:Nat)(x1:List nmc.At)(a2:Option Addr)(len2 cap2:Nat)(x2:List (List nmc.At))(a3:Option Addr)(len3 cap3:Nat)(x3:List (List nmc.At))(w:World)(w0:nmc.SpC (fun _=>True) w P0 X0 (.slice a0 l0 c0) (.slice b0 m0 d0))(s0:nmc.SmP P0)(t0:nmc.SmL X0)(w1:nmc.LsC nmc.atE (fun _=>True) w x1 (.slice a1 len1 cap1))(s1:nmc.SmN x1)(w2:nmc.LsC (nmc.lsE nmc.atE) (fun _=>True) w x2 (.slice a2 len2 cap2))(s2:nmc.SmL x2)(w3:nmc.LsC (nmc.lsE nmc.atE) (fun _=>True) w x3 (.slice a3 len3 cap3))(s3:nmc.SmL x3):
    Calls Try.prog 3 #[.agg #[.slice a0 l0 c0,.slice b0 m0 d0],.slice a1 len1 cap1,.slice a2 len2 cap2,.slice a3 len3 cap3] w fun e w'=>e=.returned (.bool true)∧Below w.heap.size w w':=by
  have mixed:Try.prog.follows Departure.mixedOrders=true:=by kernel_rfl
  obtain⟨W0,hW0⟩:=nm_ (w.alloc (.cells #[.slice a0 l0 c0,.slice b0 m0 d0] 25))
  have hb0:Below w.heap.size w W0:=by rw[←hW0];exact below_new _ _
  have p0:W0.heap[w.heap.size]? =some (.cells #[.slice a0 l0 c0,.slice b0 m0 d0] 25):=by rw[←hW0];exact heap_new_ _ _
  have HHD:=hd_ (head13_any W0)
  have HX:=hd_ (And.intro w0 (And.intro w1 (And.intro w2 (And.intro w3 (And.intro s0 (And.intro t0 (And.intro s1 (And.intro s2 s3))))))))
  have HB:=hd_ (And.intro hb0 p0)
  have h92:cap2≤9223372036854775807:=by have:=(ls4 w2).2.2.1;unfold maxLen at this;omega
  have h82:len2≤cap2:=(ls4 w2).2.1
  have h93:cap3≤9223372036854775807:=by have:=(ls4 w3).2.2.1;unfold maxLen at this;omega
  have h83:len3≤cap3:=(ls4 w3).2.1
  clear w0 w1 w2 w3 s0 s1 s2 s3 t0 hb0 p0
  go_enter Try.func3,Try.ntmps3
  go_wp2_with fail
  refine HHD.out.mono ?_
  rintro e wa ⟨rfl,hba⟩
  have hA:=below_then HB.out.1 hba (Nat.le_refl _)
  have pa:=(hba.block _ (Array.getElem?_eq_some_iff.1 HB.out.2).1).trans HB.out.2
  have e0:wa.cell? ⟨w.heap.size,0,none⟩=some (.slice a0 l0 c0):=(Lib.cell_of_heap pa _).trans rfl
  have e1:wa.cell? ⟨w.heap.size,1,none⟩=some (.slice b0 m0 d0):=(Lib.cell_of_heap pa _).trans rfl
  have HG:=hd_ (great_any (HX.out.1.below hA) (by have:=(ls4 HX.out.1.exclude).1;have:=HX.out.2.2.2.2.2.1.1;omega))
  have HA:=hd_ (And.intro hA pa)
  clear hba hA pa HHD HB
  go_wp2_with fail
  refine HG.out.mono ?_
  rintro e wg ⟨⟨gb,rfl⟩,hbg⟩
  have hA:=below_then HA.out.1 hbg (Nat.le_refl _)
  have pa:=(hbg.block _ (Array.getElem?_eq_some_iff.1 HA.out.2).1).trans HA.out.2
  clear hbg HG HA e0 e1
  cases gb with
  |true=>
   have HE:=hd_ hA
   clear hA pa
   go_wp2
   go_ret
   exact⟨rfl,HE.out⟩
  |false=>
   by_cases q1:500<len2
   · have z1:(500:Int)< (len2:Int):=by omega
     have HE:=hd_ hA
     clear hA pa
     go_wp2
     go_ret
     exact⟨rfl,HE.out⟩
   have z1: ¬(500:Int)< (len2:Int):=by omega
   by_cases q2:500<len3
   · have z2:(500:Int)< (len3:Int):=by omega
     have HE:=hd_ hA
     clear hA pa
     go_wp2
     go_ret
     exact⟨rfl,HE.out⟩
   have z2: ¬(500:Int)< (len3:Int):=by omega
   have e0:wg.cell? ⟨w.heap.size,0,none⟩=some (.slice a0 l0 c0):=(Lib.cell_of_heap pa _).trans rfl
   have e1:wg.cell? ⟨w.heap.size,1,none⟩=some (.slice b0 m0 d0):=(Lib.cell_of_heap pa _).trans rfl
   have HC:=hd_ (narrow_any (HX.out.1.below hA) (HX.out.2.2.1.below hA) (HX.out.2.2.2.1.below hA) HX.out.2.2.2.2.1 HX.out.2.2.2.2.2.1 HX.out.2.2.2.2.2.2.2.1 HX.out.2.2.2.2.2.2.2.2)
   have HY:=hd_ (And.intro hA pa)
   clear hA pa
   go_wp2_with fail
   refine HC.out.mono ?_
   rintro e w4 ⟨hb4,hn4,A4,l4,c4,B4,m4,d4,rfl,hSa⟩
   obtain⟨TP,hTP⟩:=nm_ (narrowP P0 x2)
   obtain⟨XE,hXE⟩:=nm_ (X0++x3)
   have hTx:=narrow_tx HX.out.2.2.2.2.1 HX.out.2.2.2.2.2.1 HX.out.2.2.2.2.2.2.2.1 HX.out.2.2.2.2.2.2.2.2
   rw[hTP,hXE] at hSa hTx
   obtain⟨W4,hW4⟩:=nm_ (w4.alloc (.cells #[.slice A4 l4 c4,.slice B4 m4 d4] 25))
   have hb5:Below w4.heap.size w4 W4:=by rw[←hW4];exact below_new _ _
   have p4:W4.heap[w4.heap.size]? =some (.cells #[.slice A4 l4 c4,.slice B4 m4 d4] 25):=by rw[←hW4];exact heap_new_ _ _
   have hz4:W4.heap.size=w4.heap.size+1:=by rw[←hW4];exact size_new _ _
   have hB4:=below_then HY.out.1 (below_then hb4 hb5 (Nat.le_refl _)) (Nat.le_refl _)
   have q4:=((below_then hb4 hb5 (Nat.le_refl _)).block _ (Array.getElem?_eq_some_iff.1 HY.out.2).1).trans HY.out.2
   have f0:W4.cell? ⟨w.heap.size,0,none⟩=some (.slice a0 l0 c0):=(Lib.cell_of_heap q4 _).trans rfl
   have f1:W4.cell? ⟨w.heap.size,1,none⟩=some (.slice b0 m0 d0):=(Lib.cell_of_heap q4 _).trans rfl
   have bd: ∀{α:Type} {E:El α} {xs:List α} {A:Option Addr} {l c:Nat},LsC E (fun _=>True) w xs (.slice A l c)→LsC E (fun g=>g<w.heap.size) w xs (.slice A l c):=fun h=>by
     obtain⟨A1,c1,e1,k1,k2,k3⟩:=h
     exact⟨A1,c1,e1,k1,k2,(Lst.boundS k3).mono (fun g hg=>hg.2)⟩
   have hsb:SpC (fun g=>g<w.heap.size) w P0 X0 (.slice a0 l0 c0) (.slice b0 m0 d0):=⟨bd HX.out.1.permit,bd HX.out.1.exclude⟩
   have HRN:=fun W (hW:Below w.heap.size w W)=>rnarrow_any (hsb.below hW) ((bd HX.out.2.2.1).below hW) ((bd HX.out.2.2.2.1).below hW) HX.out.2.2.2.2.1 HX.out.2.2.2.2.2.1 HX.out.2.2.2.2.2.2.2.1 HX.out.2.2.2.2.2.2.2.2
   rw[hTP,hXE] at HRN
   have HD:=hd_ (HRN W4 hB4)
   have HRN:=hd_ HRN
   have HTX:=hd_ hTx
   have HZ:=hd_ (And.intro hB4 (And.intro hb4 (And.intro hn4 (And.intro hSa (And.intro hb5 (And.intro p4 (And.intro hz4 q4)))))))
   clear hTP hXE hTx hb4 hn4 hSa hb5 p4 hz4 hB4 q4 bd hsb HC e0 e1
   go_wp2_with fail
   refine HD.out.mono ?_
   rintro e w5 ⟨hb6,A5,l5,c5,B5,m5,d5,rfl,hSb⟩
   obtain⟨W5,hW5⟩:=nm_ (w5.alloc (.cells #[.slice A5 l5 c5,.slice B5 m5 d5] 25))
   have hst:St w wg.heap.size w4.heap.size w4.heap.size w5.heap.size (.slice a0 l0 c0) (.slice b0 m0 d0) (.slice A4 l4 c4) (.slice B4 m4 d4) (.slice A5 l5 c5) (.slice B5 m5 d5) TP XE W5:=by
     obtain⟨hB4,hb4,hn4,hSa,hb5,p4,hz4,q4⟩:=HZ.out
     have hb7:Below w5.heap.size w5 W5:=by rw[←hW5];exact below_new _ _
     have hb67:=below_then hb6 hb7 (Nat.le_refl _)
     have hb567:=below_then hb5 hb67 (Nat.le_refl _)
     have z1:=(Array.getElem?_eq_some_iff.1 HY.out.2).1
     have z4:=hb4.size
     have z6:=hb6.size
     refine⟨below_then hB4 hb67 (Nat.le_refl _),by omega,z4,Nat.le_refl _,by omega,(hb67.block _ (by omega)).trans q4,(hb67.block _ (by omega)).trans p4,by rw[←hW5];exact heap_new_ _ _,hSa.bound.below hb567,(hSb.mono (fun g hg=>hg.elim .inl (fun hg=>.inr (by omega)))).below hb7,fun g i h1 h2=>?_⟩
     rw[World.frozen?_of_block (a:=⟨g,i,none⟩) (hb567.block g h2)]
     exact hn4 g i h1
   obtain⟨lo,hlo⟩:=nm_ wg.heap.size
   obtain⟨hi,hhi⟩:=nm_ w4.heap.size
   obtain⟨bb,hbb⟩:=nm_ w5.heap.size
   rw[hlo,hhi,hbb] at hst
   rw[hhi]
   have ga0:W5.cell? ⟨hi,0,none⟩=some (.slice A4 l4 c4):=(Lib.cell_of_heap hst.abox _).trans rfl
   have ga1:W5.cell? ⟨hi,1,none⟩=some (.slice B4 m4 d4):=(Lib.cell_of_heap hst.abox _).trans rfl
   have gb0:W5.cell? ⟨bb,0,none⟩=some (.slice A5 l5 c5):=(Lib.cell_of_heap hst.bbox _).trans rfl
   have gb1:W5.cell? ⟨bb,1,none⟩=some (.slice B5 m5 d5):=(Lib.cell_of_heap hst.bbox _).trans rfl
   have HS:=hd_ (same_self13 hst.a hst.b)
   have HT:=hd_ hst
   clear hb6 hSb hst HZ HD HY hW4 f0 f1 hlo hhi
   go_wp2_with fail
   refine HS.out.mono ?_
   rintro e w6 ⟨rfl,hb6⟩
   have ht6:=HT.out.call hb6
   have HT6:=hd_ ht6
   clear hb6 HS HT ga0 ga1 gb0 gb1 hW5 ht6
   go_upto_region 7 with fail
   go_cut [13] (fun s13 wx=>s13=.bool true∧Hid (St w lo hi hi bb (.slice a0 l0 c0) (.slice b0 m0 d0) (.slice A4 l4 c4) (.slice B4 m4 d4) (.slice A5 l5 c5) (.slice B5 m5 d5) TP XE wx))
   case first=>
     have hW:=fun(d:Nat) (os:Array Obj)=>HT6.out.call (below_regrown w6 d os)
     have C1:=fun(d:Nat) (os:Array Obj)=>allowed_any (HX.out.1.below (hW d os).bel) (HX.out.2.1.below (hW d os).bel) HX.out.2.2.2.2.2.2.1.tx (smP_tx HX.out.2.2.2.2.1 HX.out.2.2.2.2.2.1)
     have C2:=fun(d:Nat) (os:Array Obj)=>rallowed_any (HX.out.1.below (hW d os).bel) (HX.out.2.1.below (hW d os).bel) HX.out.2.2.2.2.2.2.1.tx (smP_tx HX.out.2.2.2.2.1 HX.out.2.2.2.2.2.1)
     have C3:=fun(d:Nat) (os:Array Obj)=>allowed_any (hW d os).a (HX.out.2.1.below (hW d os).bel) HX.out.2.2.2.2.2.2.1.tx HTX.out
     have C4:=fun(d:Nat) (os:Array Obj)=>rallowed_any (hW d os).b (HX.out.2.1.below (hW d os).bel) HX.out.2.2.2.2.2.2.1.tx HTX.out
     obtain⟨r1,hr1⟩:=nm_ (allowedB unP P0 X0 x1)
     obtain⟨r2,hr2⟩:=nm_ (allowedB unP TP XE x1)
     rw[hr1] at C1 C2
     rw[hr2] at C3 C4
     have C1:=hd_ C1
     have C2:=hd_ C2
     have C3:=hd_ C3
     have C4:=hd_ C4
     have y0:=fun(d:Nat) (os:Array Obj)=>cell_on (below_regrown w6 d os) (show w6.cell? ⟨w.heap.size,0,none⟩=some (.slice a0 l0 c0) from(Lib.cell_of_heap HT6.out.sbox _).trans rfl)
     have y1:=fun(d:Nat) (os:Array Obj)=>cell_on (below_regrown w6 d os) (show w6.cell? ⟨w.heap.size,1,none⟩=some (.slice b0 m0 d0) from(Lib.cell_of_heap HT6.out.sbox _).trans rfl)
     have y2:=fun(d:Nat) (os:Array Obj)=>cell_on (below_regrown w6 d os) (show w6.cell? ⟨hi,0,none⟩=some (.slice A4 l4 c4) from(Lib.cell_of_heap HT6.out.abox _).trans rfl)
     have y3:=fun(d:Nat) (os:Array Obj)=>cell_on (below_regrown w6 d os) (show w6.cell? ⟨hi,1,none⟩=some (.slice B4 m4 d4) from(Lib.cell_of_heap HT6.out.abox _).trans rfl)
     have y4:=fun(d:Nat) (os:Array Obj)=>cell_on (below_regrown w6 d os) (show w6.cell? ⟨bb,0,none⟩=some (.slice A5 l5 c5) from(Lib.cell_of_heap HT6.out.bbox _).trans rfl)
     have y5:=fun(d:Nat) (os:Array Obj)=>cell_on (below_regrown w6 d os) (show w6.cell? ⟨bb,1,none⟩=some (.slice B5 m5 d5) from(Lib.cell_of_heap HT6.out.bbox _).trans rfl)
     clear hW hr1 hr2
     cases r1<;>cases r2
     all_goals
       go_wp2_with fail
       try dsimp only
       refine wp_region_quiet_below (by kernel_rfl) (by kernel_rfl) ?_
       repeat (go_big_quiet_step ((first | (go_at_call_of 12 a0;refine Calls.regrown_of (C1.out _ _)) | (go_at_call_of 12 A4;refine Calls.regrown_of (C3.out _ _)) | (go_at_call_of 13 a0;refine Calls.regrown_of (C2.out _ _)) | (go_at_call_of 13 A5;refine Calls.regrown_of (C4.out _ _)))))
       refine wpQuiet_nil ?_
       intro _ hw'
       obtain⟨⟨nq,osq⟩,hw''⟩:=hw'
       subst hw''
       have HF:=hd_ (HT6.out.call (below_regrown w6 nq osq))
       clear y0 y1 y2 y3 y4 y5 C1 C2 C3 C4
       go_wp2_with fail
       go_meet
       exact⟨by first |rfl |simp,HF⟩
   case rest=>
     obtain⟨rfl,HT7⟩:=hcut
     clear HT6
     have h9d:d4≤9223372036854775807:=by have:=(ls4 HT7.out.a.exclude).2.2.1;unfold maxLen at this;omega
     have h8d:m4≤d4:=(ls4 HT7.out.a.exclude).2.1
     have hid: ¬(lo≤hi∧hi<hi):=by omega
     go_wp2_with fail
     go_loopg [14] (m4+1) (fun gk s14 wx=>∃(i:Nat),s14=.int .i64 i∧i≤m4∧m4 - i<gk∧Hid (Scr lo hi wc wx))
     case atStart=>exact⟨0,rfl,by omega,by omega,hd_ (Scr.refl _ _ _)⟩
     case round=>
       obtain⟨i,rfl,hi',hgk,HI⟩:=hrel
       have e1:wr.cell? ⟨hi,1,none⟩=some (.slice B4 m4 d4):=(Lib.cell_of_heap ((HI.out.out hi hid).trans HT7.out.abox) _).trans rfl
       by_cases hlt:i<m4
       · have hltz:(i:Int)< (m4:Int):=by omega
         obtain⟨gk',rfl⟩: ∃g',gk=g'+1:=⟨gk - 1,by omega⟩
         have HN:=hd_ (And.intro (show i+1≤m4 from hlt) (show m4 - (i+1)<gk' by omega))
         obtain⟨hx,g,off,A',l',k',rfl,_,hc,hnm⟩:=at_ls HT7.out.a.exclude hlt
         obtain⟨nX,hnX⟩:=nm_ XE[i]
         rw[hnX] at hnm
         have h9k:k'≤9223372036854775807:=by have:=(ls4 hnm).2.2.1;unfold maxLen at this;omega
         have h8k:l'≤k':=(ls4 hnm).2.1
         have HM:=hd_ (And.intro hc hnm)
         clear hnX hnm hc hx hgk
         go_wp2_with fail
         clear e1
         go_loopg [15] (l'+1) (fun gk s15 wx=>∃(k:Nat),s15=.int .i64 k∧k≤l'∧l' - k<gk∧Hid (Scr lo hi wc wx))
         case atStart=>exact⟨0,rfl,by omega,by omega,HI⟩
         case round=>
           obtain⟨k,rfl,hk,hgk2,HJ⟩:=hrel
           have e1:wr.cell? ⟨hi,1,none⟩=some (.slice (some ⟨g,off,none⟩) m4 d4):=(Lib.cell_of_heap ((HJ.out.out hi hid).trans HT7.out.abox) _).trans rfl
           have e2:wr.cell? ⟨g,off+i,none⟩=some (.slice A' l' k'):=HJ.out.sli _ _ _ _ HM.out.1
           by_cases hlt2:k<l'
           · have hltz2:(k:Int)< (l':Int):=by omega
             obtain⟨gk2',rfl⟩: ∃g',gk=g'+1:=⟨gk - 1,by omega⟩
             have HN2:=hd_ (And.intro (show k+1≤l' from hlt2) (show l' - (k+1)<gk2' by omega))
             obtain⟨g3,off3,t3,rfl,e3,f3,k1,k2⟩:=HJ.out.at_ HT7.out.nf HM.out.2 hlt2
             have HS3:=hd_ (HJ.out.set (t:=⟨#[63]⟩) e3 k1 k2)
             clear k1 k2 hgk2
             go_wp2_with fail
             clear e1 e2 e3 f3
             go_roundg gk2'
             case measure=>omega
             case rel=>exact⟨k+1,by go_num,HN2.out.1,HN2.out.2,HS3⟩
           · obtain rfl:l'=k:=by omega
             have hltz2: ¬(l':Int)< (l':Int):=by omega
             clear hgk2
             go_wp2_with fail
             clear e1 e2
             go_roundg gk'
             case measure=>omega
             case rel=>exact⟨i+1,by go_num,HN.out.1,HN.out.2,HJ⟩
       · obtain rfl:m4=i:=by omega
         have hltz: ¬(m4:Int)< (m4:Int):=by omega
         obtain⟨hbw,sb,ab,bx,hb⟩:=HT7.out.scr HI.out
         have x0:wr.cell? ⟨w.heap.size,0,none⟩=some (.slice a0 l0 c0):=(Lib.cell_of_heap sb _).trans rfl
         have x1':wr.cell? ⟨w.heap.size,1,none⟩=some (.slice b0 m0 d0):=(Lib.cell_of_heap sb _).trans rfl
         have z0:wr.cell? ⟨bb,0,none⟩=some (.slice A5 l5 c5):=(Lib.cell_of_heap bx _).trans rfl
         have z1':wr.cell? ⟨bb,1,none⟩=some (.slice B5 m5 d5):=(Lib.cell_of_heap bx _).trans rfl
         have HC:=HRN
         have HV:=hd_ (And.intro hbw (And.intro bx hb))
         clear hbw sb ab bx hb hgk HT7 HI HX HTX
         go_wp2_with fail
         clear e1
         try dsimp only
         refine wp_region_noPanic ?_
         refine wp_region_held_drew (S:=fun wx:World=>wx.cell? ⟨w.heap.size,0,none⟩=some (.slice a0 l0 c0)∧wx.cell? ⟨w.heap.size,1,none⟩=some (.slice b0 m0 d0)∧wx.cell? ⟨bb,0,none⟩=some (.slice A5 l5 c5)∧wx.cell? ⟨bb,1,none⟩=some (.slice B5 m5 d5)) mixed ⟨x0,x1',z0,z1'⟩ (fun hHeld=>?_)
         have hbd:Below wr.heap.size wr wr.drew:=(Below.refl _ _).drew
         obtain⟨wd,hwd⟩: ∃x,wr.drew=x:=⟨_,rfl⟩
         rw[hwd] at hHeld hbd⊢
         clear hwd
         (refine wpAnyH_take (i:=0) (oi:=⟨_,_,_,_,_,_⟩) (v:=?_) rfl (by kernel_rfl) (by kernel_rfl) (by kernel_rfl) (fun _ _ _ h=>h) (Or.inl ⟨by rfl,?_⟩) (by assumption) ?_;rotate_left;focus (intro wS hSw;(first |obtain⟨c1,c2,c3,c4⟩:=hSw |skip);go_simp;(try with_reducible rfl);done);(try simp only[Act.put,List.setIfInBounds_toArray,List.set_cons_zero,List.set_cons_succ]))
         try simp only[Act.put,List.setIfInBounds_toArray,List.set_cons_zero,List.set_cons_succ]
         (refine wpAnyH_take (i:=1) (oi:=⟨_,_,_,_,_,_⟩) (v:=?_) rfl (by kernel_rfl) (by kernel_rfl) (by kernel_rfl) (fun _ _ _ h=>h) (Or.inl ⟨by rfl,?_⟩) (by assumption) ?_;rotate_left;focus (intro wS hSw;(first |obtain⟨c1,c2,c3,c4⟩:=hSw |skip);go_simp;(try with_reducible rfl);done);(try simp only[Act.put,List.setIfInBounds_toArray,List.set_cons_zero,List.set_cons_succ]))
         try simp only[Act.put,List.setIfInBounds_toArray,List.set_cons_zero,List.set_cons_succ]
         (refine wpAnyH_take (i:=2) (oi:=⟨_,_,_,_,_,_⟩) (v:=?_) rfl (by kernel_rfl) (by kernel_rfl) (by kernel_rfl) (fun _ _ _ h=>h) (Or.inl ⟨by rfl,?_⟩) (by assumption) ?_;rotate_left;focus (intro wS hSw;(first |obtain⟨c1,c2,c3,c4⟩:=hSw |skip);go_simp;(try with_reducible rfl);done);(try simp only[Act.put,List.setIfInBounds_toArray,List.set_cons_zero,List.set_cons_succ]))
         try simp only[Act.put,List.setIfInBounds_toArray,List.set_cons_zero,List.set_cons_succ]
         (refine wpAnyH_take (i:=3) (oi:=⟨_,_,_,_,_,_⟩) (v:=?_) rfl (by kernel_rfl) (by kernel_rfl) (by kernel_rfl) (fun _ _ _ h=>h) (Or.inl ⟨by rfl,?_⟩) (by assumption) ?_;rotate_left;focus (intro wS hSw;(first |obtain⟨c1,c2,c3,c4⟩:=hSw |skip);go_simp;(try with_reducible rfl);done);(try simp only[Act.put,List.setIfInBounds_toArray,List.set_cons_zero,List.set_cons_succ]))
         try simp only[Act.put,List.setIfInBounds_toArray,List.set_cons_zero,List.set_cons_succ]
         (refine wpAnyH_take (i:=4) (oi:=⟨_,_,_,_,_,_⟩) (v:=?_) rfl (by kernel_rfl) (by kernel_rfl) (by kernel_rfl) (fun _ _ _ h=>h) (Or.inl ⟨by rfl,?_⟩) (by assumption) ?_;rotate_left;focus (intro wS hSw;(first |obtain⟨c1,c2,c3,c4⟩:=hSw |skip);go_simp;(try with_reducible rfl);done);(try simp only[Act.put,List.setIfInBounds_toArray,List.set_cons_zero,List.set_cons_succ]))
         try simp only[Act.put,List.setIfInBounds_toArray,List.set_cons_zero,List.set_cons_succ]
         (refine wpAnyH_take (i:=5) (oi:=⟨_,_,_,_,_,_⟩) (v:=?_) rfl (by kernel_rfl) (by kernel_rfl) (by kernel_rfl) (fun _ _ _ h=>h) (Or.inl ⟨by rfl,?_⟩) (by assumption) ?_;rotate_left;focus (intro wS hSw;(first |obtain⟨c1,c2,c3,c4⟩:=hSw |skip);go_simp;(try with_reducible rfl);done);(try simp only[Act.put,List.setIfInBounds_toArray,List.set_cons_zero,List.set_cons_succ]))
         try simp only[Act.put,List.setIfInBounds_toArray,List.set_cons_zero,List.set_cons_succ]
         (refine wpAnyH_take (i:=6) (oi:=⟨_,_,_,_,_,_⟩) (v:=?_) rfl (by kernel_rfl) (by kernel_rfl) (by kernel_rfl) (fun _ _ _ h=>h) (Or.inl ⟨by rfl,?_⟩) (by assumption) ?_;rotate_left;focus (intro wS hSw;(first |obtain⟨c1,c2,c3,c4⟩:=hSw |skip);go_simp;(try with_reducible rfl);done);(try simp only[Act.put,List.setIfInBounds_toArray,List.set_cons_zero,List.set_cons_succ]))
         try simp only[Act.put,List.setIfInBounds_toArray,List.set_cons_zero,List.set_cons_succ]
         (refine wpAnyH_take (i:=7) (oi:=⟨_,_,_,_,_,_⟩) (v:=?_) rfl (by kernel_rfl) (by kernel_rfl) (by kernel_rfl) (fun _ _ _ h=>h) (Or.inl ⟨by rfl,?_⟩) (by assumption) ?_;rotate_left;focus (intro wS hSw;(first |obtain⟨c1,c2,c3,c4⟩:=hSw |skip);go_simp;(try with_reducible rfl);done);(try simp only[Act.put,List.setIfInBounds_toArray,List.set_cons_zero,List.set_cons_succ]))
         try simp only[Act.put,List.setIfInBounds_toArray,List.set_cons_zero,List.set_cons_succ]
         (refine wpAnyH_take (i:=8) (oi:=⟨_,_,_,_,_,_⟩) (v:=?_) rfl (by kernel_rfl) (by kernel_rfl) (by kernel_rfl) (fun _ _ _ h=>h) (Or.inl ⟨by rfl,?_⟩) (by assumption) ?_;rotate_left;focus (intro wS hSw;(first |obtain⟨c1,c2,c3,c4⟩:=hSw |skip);go_simp;(try with_reducible rfl);done);(try simp only[Act.put,List.setIfInBounds_toArray,List.set_cons_zero,List.set_cons_succ]))
         try simp only[Act.put,List.setIfInBounds_toArray,List.set_cons_zero,List.set_cons_succ]
         (refine wpAnyH_take (i:=9) (oi:=⟨_,_,_,_,_,_⟩) (v:=?_) rfl (by kernel_rfl) (by kernel_rfl) (by kernel_rfl) (fun _ _ _ h=>h) (Or.inl ⟨by rfl,?_⟩) (by assumption) ?_;rotate_left;focus (intro wS hSw;(first |obtain⟨c1,c2,c3,c4⟩:=hSw |skip);go_simp;(try with_reducible rfl);done);(try simp only[Act.put,List.setIfInBounds_toArray,List.set_cons_zero,List.set_cons_succ]))
         try simp only[Act.put,List.setIfInBounds_toArray,List.set_cons_zero,List.set_cons_succ]
         (refine wpAnyH_take (i:=10) (oi:=⟨_,_,_,_,_,_⟩) (v:=?_) rfl (by kernel_rfl) (by kernel_rfl) (by kernel_rfl) (fun _ _ _ h=>h) (Or.inl ⟨by rfl,?_⟩) (by assumption) ?_;rotate_left;focus (intro wS hSw;(first |obtain⟨c1,c2,c3,c4⟩:=hSw |skip);go_simp;(try with_reducible rfl);done);(try simp only[Act.put,List.setIfInBounds_toArray,List.set_cons_zero,List.set_cons_succ]))
         try simp only[Act.put,List.setIfInBounds_toArray,List.set_cons_zero,List.set_cons_succ]
         (refine wpAnyH_take (i:=12) (oi:=⟨_,_,_,_,_,_⟩) (v:=?_) rfl (by kernel_rfl) (by kernel_rfl) (by kernel_rfl) (fun _ _ _ h=>h) (Or.inl ⟨by rfl,?_⟩) (by assumption) ?_;rotate_left;focus (intro wS hSw;(first |obtain⟨c1,c2,c3,c4⟩:=hSw |skip);go_simp;(try with_reducible rfl);done);(try simp only[Act.put,List.setIfInBounds_toArray,List.set_cons_zero,List.set_cons_succ]))
         try simp only[Act.put,List.setIfInBounds_toArray,List.set_cons_zero,List.set_cons_succ]
         refine wpAnyH_ready (rs:=[11]) (by kernel_rfl) (by simp) ?_
         refine AllReadyH.cons (o:=⟨_,_,_,_,_,_⟩) rfl (fun KK hKK=>?_) AllReadyH.nil
         go_simp
         refine(HC.out wd (below_then HV.out.1 hbd (Nat.le_refl _))).mono ?_
         rintro e w8 ⟨hb8,A8,l8,c8,B8,m8,d8,rfl,hS8⟩
         dsimp only
         have hb9:=below_then hbd hb8 (Nat.le_refl _)
         have HS:=hd_ (same_self13 hS8 ((HV.out.2.2.below hbd).below hb8))
         have HE:=hd_ (below_then HV.out.1 hb9 (Nat.le_refl _))
         clear hS8 hb8
         refine hKK.out _ _ ⟨cell_on hb9 x0,cell_on hb9 x1',cell_on hb9 z0,cell_on hb9 z1'⟩ (fun hHeld2=>?_)
         clear hKK KK hHeld
         have hHeld:=hHeld2
         clear hHeld2
         try simp only[Act.put,List.setIfInBounds_toArray,List.set_cons_zero,List.set_cons_succ]
         refine wpAnyH_ready (rs:=[13]) (by kernel_rfl) (by simp) ?_
         refine AllReadyH.cons (o:=⟨_,_,_,_,_,_⟩) rfl (fun KK hKK=>?_) AllReadyH.nil
         go_simp
         refine HS.out.mono ?_
         rintro e w9 ⟨rfl,hb10⟩
         dsimp only
         have hb11:=below_then hb9 hb10 (Nat.le_refl _)
         have HG:=hd_ (below_then HE.out hb10 (Nat.le_refl _))
         clear hb10
         refine hKK.out _ _ ⟨cell_on hb11 x0,cell_on hb11 x1',cell_on hb11 z0,cell_on hb11 z1'⟩ (fun hHeld2=>?_)
         clear hKK KK hHeld
         have hHeld:=hHeld2
         clear hHeld2
         try simp only[Act.put,List.setIfInBounds_toArray,List.set_cons_zero,List.set_cons_succ]
         (refine wpAnyH_take (i:=14) (oi:=⟨_,_,_,_,_,_⟩) (v:=?_) rfl (by kernel_rfl) (by kernel_rfl) (by kernel_rfl) (fun _ _ _ h=>h) (Or.inl ⟨by rfl,?_⟩) (by assumption) ?_;rotate_left;focus (intro wS hSw;(first |obtain⟨c1,c2,c3,c4⟩:=hSw |skip);go_simp;(try with_reducible rfl);done);(try simp only[Act.put,List.setIfInBounds_toArray,List.set_cons_zero,List.set_cons_succ]))
         try simp only[Act.put,List.setIfInBounds_toArray,List.set_cons_zero,List.set_cons_succ]
         (refine wpAnyH_take (i:=15) (oi:=⟨_,_,_,_,_,_⟩) (v:=?_) rfl (by kernel_rfl) (by kernel_rfl) (by kernel_rfl) (fun _ _ _ h=>h) (Or.inl ⟨by rfl,?_⟩) (by assumption) ?_;rotate_left;focus (intro wS hSw;(first |obtain⟨c1,c2,c3,c4⟩:=hSw |skip);go_simp;(try with_reducible rfl);done);(try simp only[Act.put,List.setIfInBounds_toArray,List.set_cons_zero,List.set_cons_succ]))
         try simp only[Act.put,List.setIfInBounds_toArray,List.set_cons_zero,List.set_cons_succ]
         refine wpAnyH_done (by kernel_rfl) ?_ _
         refine NoPanic.normal ?_
         clear hHeld hb9 hb11 hbd x0 x1' z0 z1' HS HE HC HV
         go_wp2_with fail
         go_ret
         exact⟨rfl,HG.out⟩

set_option maxRecDepth 100000 in
theorem lifted (os:Os)(started:os.Started)(H:Type)(enc:TypeId × Value→H)(F:Stop.Interp):
    ReturnsInHanded {} Try.checked os 3 .any ((Rows.OpenSpec.upto Rows.subtreesAllowSpec).pre6 enc Try.prog Try.f3 Rows.subtreesAllowUptoRow.domain false) (((Rows.OpenSpec.upto Rows.subtreesAllowSpec).at F).post enc Try.prog Try.f3 false true false false):=by
  refine returnsInHanded_of_cond_sized (C:=Try.checked) (s:=Rows.OpenSpec.upto Rows.subtreesAllowSpec) (k:=Rows.uptoSmall) rfl own started (by kernel_rfl) Try.func3
    (OpenSpec.witness (enc:=enc) (C:=Try.checked) (s:=Rows.OpenSpec.upto Rows.subtreesAllowSpec) (k:=Rows.uptoSmall) rfl false ⟨#[],#[.agg #[.slice none 0 0,.slice none 0 0],.slice none 0 0,.slice none 0 0,.slice none 0 0],[]⟩ 8 (by kernel_rfl) (by kernel_rfl) (by kernel_rfl)
      (x:=([.agg [.nil,.nil],.nil,.nil,.nil],[],[])) (by kernel_rfl) rfl (by kernel_rfl)) ?_
  intro W base args ds gs before hval0 hW hcnd hk hsz0 _
  have hval: ∀(j:Nat) t v,Try.f3.params[j]? =some t→args[j]? =some v→Value.okWide Try.prog W .any base t v:=hval0
  have hW':=hW
  obtain⟨p,q,hA0,hV,rfl,hfz,hnd⟩:=hW
  have hA:DataW.TrodAll enc Try.prog W 0 (fun _=>true) true Try.f3.params.toList args.toList ds p:=hA0
  have hsz:(DataW.weightsEach Try.prog (Try.f3.params.toList++(Rows.OpenSpec.upto Rows.subtreesAllowSpec).bare.plain.varTypes Try.prog) (ds++gs)).all (· ≤reachBytes)=true:=hsz0
  rw[Try.params3] at hA hval hsz
  obtain⟨v0,vs0,d0,ds0,p0,q0,hargs,rfl,rfl,h0,r_0⟩:=trodAll_cons hA
  obtain⟨v1,vs1,d1,ds1,p1,q1,rfl,rfl,rfl,h1,r_1⟩:=trodAll_cons r_0
  obtain⟨v2,vs2,d2,ds2,p2,q2,rfl,rfl,rfl,h2,r_2⟩:=trodAll_cons r_1
  obtain⟨v3,vs3,d3,ds3,p3,q3,rfl,rfl,rfl,h3,r_3⟩:=trodAll_cons r_2
  obtain⟨rfl,rfl,rfl⟩:=trodAll_nil r_3
  obtain rfl:args=#[v0,v1,v2,v3]:=by cases args;simp_all
  obtain⟨rfl,rfl⟩:=trodVars_none hV
  have k0:=h0
  have lt0: ∀x∈p0,x.block<W.heap.size:=by obtain⟨m,hm⟩:=k0;exact DataW.trod_lt m _ _ _ hm
  obtain⟨cs0,rfl,_⟩:=okWide_struct Try.underlying25 (hval 0 25 v0 rfl rfl)
  obtain⟨z0,i0,u0,g0,y0⟩:=dtc.open_shS (s:=.agg [.row (.row (.row (.agg [.row (.int .i64),.str]))),.row (.row (.agg [.row (.int .i64),.str]))]) (dtc.fit_agg Try.underlying25 (by kernel_rfl) (dtc.fits_cons (by kernel_rfl) (dtc.fit_row Try.underlying22 (dtc.fit_row Try.underlying23 (dtc.fit_row Try.underlying27 (dtc.fit_agg Try.underlying35 (by kernel_rfl) (dtc.fits_cons (by kernel_rfl) (dtc.fit_row Try.underlying33 (dtc.fit_int Try.underlying3 (by kernel_rfl)) (by kernel_rfl) (by kernel_rfl)) (dtc.fits_cons (by kernel_rfl) (dtc.fit_str Try.underlying9 (by kernel_rfl)) dtc.fits_nil))) (by kernel_rfl) (by kernel_rfl)) (by kernel_rfl) (by kernel_rfl)) (by kernel_rfl) (by kernel_rfl)) (dtc.fits_cons (by kernel_rfl) (dtc.fit_row Try.underlying23 (dtc.fit_row Try.underlying27 (dtc.fit_agg Try.underlying35 (by kernel_rfl) (dtc.fits_cons (by kernel_rfl) (dtc.fit_row Try.underlying33 (dtc.fit_int Try.underlying3 (by kernel_rfl)) (by kernel_rfl) (by kernel_rfl)) (dtc.fits_cons (by kernel_rfl) (dtc.fit_str Try.underlying9 (by kernel_rfl)) dtc.fits_nil))) (by kernel_rfl) (by kernel_rfl)) (by kernel_rfl) (by kernel_rfl)) dtc.fits_nil))) h0
  obtain⟨a0,l0,c0,b0,m0,d0',ev0,P0,X0,w0,s0,t0⟩:=nmc.arg_sp i0 u0 (y0 (dtc.bulk_at hk (j:=0) rfl)) (g0.trans (by kernel_rfl)) rfl
  obtain rfl:cs0=#[.slice a0 l0 c0,.slice b0 m0 d0']:=by injection ev0
  obtain⟨a1,len1,cap1,rfl⟩:=okWide_slice Try.underlying27 (hval 1 27 v1 rfl rfl)
  have k1:=h1
  have lt1: ∀x∈p1,x.block<W.heap.size:=by obtain⟨m,hm⟩:=k1;exact DataW.trod_lt m _ _ _ hm
  obtain⟨z1,i1,u1,_,y1⟩:=dtc.open_shS (s:=.row (.agg [.row (.int .i64),.str])) (dtc.fit_row Try.underlying27 (dtc.fit_agg Try.underlying35 (by kernel_rfl) (dtc.fits_cons (by kernel_rfl) (dtc.fit_row Try.underlying33 (dtc.fit_int Try.underlying3 (by kernel_rfl)) (by kernel_rfl) (by kernel_rfl)) (dtc.fits_cons (by kernel_rfl) (dtc.fit_str Try.underlying9 (by kernel_rfl)) dtc.fits_nil))) (by kernel_rfl) (by kernel_rfl)) h1
  obtain⟨x1,w1,s1⟩:=nmc.arg_nm i1 u1 (y1 (dtc.bulk_at hk (j:=1) rfl)) rfl
  obtain⟨a2,len2,cap2,rfl⟩:=okWide_slice Try.underlying23 (hval 2 23 v2 rfl rfl)
  have k2:=h2
  have lt2: ∀x∈p2,x.block<W.heap.size:=by obtain⟨m,hm⟩:=k2;exact DataW.trod_lt m _ _ _ hm
  obtain⟨z2,i2,u2,_,y2⟩:=dtc.open_shS (s:=.row (.row (.agg [.row (.int .i64),.str]))) (dtc.fit_row Try.underlying23 (dtc.fit_row Try.underlying27 (dtc.fit_agg Try.underlying35 (by kernel_rfl) (dtc.fits_cons (by kernel_rfl) (dtc.fit_row Try.underlying33 (dtc.fit_int Try.underlying3 (by kernel_rfl)) (by kernel_rfl) (by kernel_rfl)) (dtc.fits_cons (by kernel_rfl) (dtc.fit_str Try.underlying9 (by kernel_rfl)) dtc.fits_nil))) (by kernel_rfl) (by kernel_rfl)) (by kernel_rfl) (by kernel_rfl)) h2
  obtain⟨x2,w2,s2⟩:=nmc.arg_nl i2 u2 (y2 (dtc.bulk_at hk (j:=2) rfl)) rfl
  obtain⟨a3,len3,cap3,rfl⟩:=okWide_slice Try.underlying23 (hval 3 23 v3 rfl rfl)
  have k3:=h3
  have lt3: ∀x∈p3,x.block<W.heap.size:=by obtain⟨m,hm⟩:=k3;exact DataW.trod_lt m _ _ _ hm
  obtain⟨z3,i3,u3,_,y3⟩:=dtc.open_shS (s:=.row (.row (.agg [.row (.int .i64),.str]))) (dtc.fit_row Try.underlying23 (dtc.fit_row Try.underlying27 (dtc.fit_agg Try.underlying35 (by kernel_rfl) (dtc.fits_cons (by kernel_rfl) (dtc.fit_row Try.underlying33 (dtc.fit_int Try.underlying3 (by kernel_rfl)) (by kernel_rfl) (by kernel_rfl)) (dtc.fits_cons (by kernel_rfl) (dtc.fit_str Try.underlying9 (by kernel_rfl)) dtc.fits_nil))) (by kernel_rfl) (by kernel_rfl)) (by kernel_rfl) (by kernel_rfl)) h3
  obtain⟨x3,w3,s3⟩:=nmc.arg_nl i3 u3 (y3 (dtc.bulk_at hk (j:=3) rfl)) rfl
  clear hA0 hval0
  refine(walk a0 l0 c0 b0 m0 d0' P0 X0 a1 len1 cap1 x1 a2 len2 cap2 x2 a3 len3 cap3 x3 W w0 s0 t0 w1 s1 w2 s2 w3 s3).mono fun e W' ⟨he,bel⟩=>?_
  subst he
  exact⟨_,rfl,_,_,_,[],_,[],hW',trodAll_mk1 (shut_bool Try.underlying4 _),(trodAll_cons_mk (Below.trod laidOut (by kernel_rfl) (of_decide_eq_true (by kernel_rfl)) k0 bel lt0) (trodAll_cons_mk (Below.trod laidOut (by kernel_rfl) (of_decide_eq_true (by kernel_rfl)) k1 bel lt1) (trodAll_cons_mk (Below.trod laidOut (by kernel_rfl) (of_decide_eq_true (by kernel_rfl)) k2 bel lt2) (trodAll_cons_mk (Below.trod laidOut (by kernel_rfl) (of_decide_eq_true (by kernel_rfl)) k3 bel lt3) trodAll_mk0)))),rfl,bel.frame _,fun h=>by cases h⟩

theorem over:Rows.subtreesAllowUptoRow.holds Try.pinned (Rows.OpenSpec.upto Rows.subtreesAllowSpec):=
  OpenClaim.holds_of_cond 3 Try.f3 rfl rfl rfl rfl rfl rfl rfl ⟨rfl,rfl,rfl,rfl,rfl⟩ rfl rfl rfl rfl rfl (by kernel_rfl) Try.func3 (by kernel_rfl)
    (of_decide_eq_true (by kernel_rfl)) (by unfold Func.isWrapper;first | (rw[if_pos (by decide+kernel)];kernel_rfl) | (rw[if_neg (by decide+kernel)];exact⟨rfl,rfl⟩))
    (fun os started H enc _ F=>lifted os started H enc F)

theorem proved:Rows.SubtreesAllowUptoSaid:=over
#print axioms proved
end Go.Proofs.Ytclmaglkekkigaa.subtreesAllowUpto
