/- The program's Narrow: the walk. -/
import Derived.Test.YtclmaglkekkigaaOf
import Derived.Deep.DeepCutAuto
set_option maxRecDepth 100000
set_option maxHeartbeats 6400000
set_option linter.unusedVariables false
set_option linter.unusedSimpArgs false
namespace Go.Proofs.Ytclmaglkekkigaa.nmc
open Go.RowKit Go.Proofs.Ytclmaglkekkigaa.tlvc Go.Proofs.Ytclmaglkekkigaa.ndc Go.Proofs.Ytclmaglkekkigaa.txc Go.Proofs.Ytclmaglkekkigaa.txm
theorem narrow_any {S T U:Nat→Prop}{P:List (List (List At))}{X p e:List (List At)}{A B C D:Option Addr}{l c m d lp cp le ce:Nat}{w:World}(hS:SpC S w P X (.slice A l c) (.slice B m d))(hp:LsC nmE T w p (.slice C lp cp))(he:LsC nmE U w e (.slice D le ce))(sP:SmP P)(sX:SmL X)(sp:SmL p)(se:SmL e):
    Calls Try.prog 9 #[.agg #[.slice A l c,.slice B m d],.slice C lp cp,.slice D le ce] w (NewS (narrowP P p) (X++e) w):=by
  have h9:c≤9223372036854775807:=by have:=(ls4 hS.permit).2.2.1;unfold maxLen at this;omega
  have h8:l≤c:=(ls4 hS.permit).2.1
  obtain⟨W0,hW0⟩:=nm_ (((w.alloc (.cells #[.slice A l c,.slice B m d] 25)).alloc (.cells #[.slice none 0 0,.slice none 0 0] 25)).alloc (.cells #[.slice none 0 0,.slice none 0 0] 25))
  have HI0:=hd_ (SInv.start hW0)
  have e0:W0.cell? ⟨w.heap.size,0,none⟩=some (.slice A l c):=(Lib.cell_of_heap HI0.out.arg _).trans rfl
  have HX:=hd_ (And.intro hS (And.intro hp (And.intro he (And.intro sP (And.intro sX (And.intro sp (And.intro se (And.intro (ls4 hS.permit).1 (ls4 hp).1))))))))
  obtain⟨TP,hTP⟩:=nm_ (narrowP P p)
  rw[hTP]
  have HTP:=hd_ hTP
  clear hS hp he sP sX sp se hTP
  go_enter Try.func9,Try.ntmps9
  go_wp2_with fail
  go_loopg [13] (l+1) (fun gk s13 wx=>∃(k:Nat) (Av:Option Addr) (cv:Nat),s13=.int .i64 k∧k≤l∧l - k<gk∧Hid (SInv w (.slice A l c) (.slice B m d) (.slice Av k cv) (.slice none 0 0) (P.take k) wx))
  case atStart=>exact⟨0,none,0,rfl,by omega,by omega,HI0⟩
  case round=>
    obtain⟨k,Av,cv,rfl,hk,hgk,HI⟩:=hrel
    clear e0 HI0
    have hB:=HI.out.bel
    by_cases hlt:k<l
    · have hltz:(k:Int)< (l:Int):=by omega
      obtain⟨gk',rfl⟩: ∃g',gk=g'+1:=⟨gk - 1,by omega⟩
      have HN:=hd_ (And.intro (show k+1≤l from hlt) (show l - (k+1)<gk' by omega))
      obtain⟨hS,hp,he,sP,sX,sp,se,hPl,hpl⟩:=HX.out
      obtain⟨hx,g,off,A1,l1,c1,rfl,hg,e1,h1⟩:=at_ls (hS.permit.below hB) hlt
      have ht1:=take_one hx
      have hlk:=take_len (xs:=P) (i:=k) (by omega)
      have hPm:P.length≤1048576:=sP.1
      have e2:wr.cell? ⟨w.heap.size+1+1,0,none⟩=some (.slice Av k cv):=(Lib.cell_of_heap HI.out.box _).trans rfl
      have hsk:=sP.2 _ (List.getElem_mem hx)
      obtain⟨Lk,hLk⟩:=nm_ P[k]
      rw[hLk] at h1 ht1 hsk
      have HC:=hd_ (copies_any (w:=wr.drew) (h1.below (Below.refl _ _).drew) hsk)
      have HP:=hd_ (And.intro hlk (And.intro ht1 (show(P.take k).length≤1048576 by rw[hlk];omega)))
      have e3:wr.drew.cell? ⟨w.heap.size+1+1,0,none⟩=some (.slice Av k cv):=e2
      have e4:wr.cell? ⟨w.heap.size,0,none⟩=some (.slice (some ⟨g,off,none⟩) l c):=(Lib.cell_of_heap HI.out.arg _).trans rfl
      clear hS hp he sP sX sp se hB hg hlk ht1 hPm h1 hgk hPl hpl hsk hLk hx
      go_wp2_with fail
      go_region_law (first | (refine step_run rfl (.tmp 18) (.tmp 21) 22 rfl _ _ _ (by simp[Act.eval]) (by simp[Act.eval]) hrun ?_) | (go_simp;go_at_call 15;refine HC.out.mono ?_;rintro e w5 ⟨hb5,hn5,A5,l5,c5,rfl,hG5⟩;have hb6:=below_then (Below.refl wr.heap.size wr).drew hb5 (Nat.le_refl _);obtain⟨A7,c7,w7,hrun,g0,g1,hI7⟩:=HI.out.push hb6 hn5 hG5 HP.out.2.2;have x5:w5.cell? ⟨w.heap.size+1+1,0,none⟩=some (.slice Av k cv):=(Lib.cell_of_heap (HI.out.call hb6 hn5).box _).trans rfl;have x6:(w5.alloc (.cells #[.slice A5 l5 c5] 23)).cell? ⟨w.heap.size+1+1,0,none⟩=some (.slice Av k cv):=(Lib.cell_of_heap ((HI.out.call hb6 hn5).call (below_new _ _) ((Nf.start _).alloc _ _)).box _).trans rfl;rw[HP.out.1] at hrun hI7;rw[HP.out.2.1] at hI7;have HI7:=hd_ hI7;clear hI7 hG5 hb5 hn5 hb6))
      all_goals
        clear hrun g0 g1 x5 x6 e1 e2 e3 e4 HC
        go_wp2
        go_roundg gk'
        case measure=>omega
        case rel=>exact⟨k+1,A7,c7,by go_num,HN.out.1,HN.out.2,HI7⟩
    · obtain rfl:l=k:=by omega
      have hltz: ¬(l:Int)< (l:Int):=by omega
      have hPl:=HX.out.2.2.2.2.2.2.2.1
      have hI:=HI.out
      rw[List.take_of_length_le (by omega)] at hI
      have HI:=hd_ hI
      clear hI hPl hB hgk
      go_upto_if 27 with fail
      go_cut [27] (fun s27 wx=>∃(Av:Option Addr) (n cv:Nat),Hid (SInv w (.slice A l c) (.slice B m d) (.slice Av n cv) (.slice none 0 0) TP wx))
      case first=>
        by_cases hp0:0<lp
        · have hpz:(0:Int)< (lp:Int):=by omega
          obtain⟨hS,hp,he,sP,sX,sp,se,hPl,hpl⟩:=HX.out
          have hTP:P++[p]=TP:=by
            have:=HTP.out
            unfold narrowP at this
            rw[if_neg (by omega)] at this
            exact this
          have hPm:P.length≤1048576:=sP.1
          have e2:wr.cell? ⟨w.heap.size+1+1,0,none⟩=some (.slice Av l cv):=(Lib.cell_of_heap HI.out.box _).trans rfl
          have e3:wr.drew.cell? ⟨w.heap.size+1+1,0,none⟩=some (.slice Av l cv):=e2
          have HC:=hd_ (copies_any (w:=wr.drew) ((hp.below HI.out.bel).below (Below.refl _ _).drew) sp)
          have HP:=hd_ (And.intro hPl (And.intro hTP hPm))
          clear hS hp he sP sX sp se hPl hpl hTP hPm hp0
          go_wp2_with fail
          go_region_law (first | (refine step_run rfl (.tmp 29) (.tmp 32) 22 rfl _ _ _ (by simp[Act.eval]) (by simp[Act.eval]) hrun ?_) | (go_simp;go_at_call 15;refine HC.out.mono ?_;rintro e w5 ⟨hb5,hn5,A5,l5,c5,rfl,hG5⟩;have hb6:=below_then (Below.refl wr.heap.size wr).drew hb5 (Nat.le_refl _);obtain⟨A7,c7,w7,hrun,g0,g1,hI7⟩:=HI.out.push hb6 hn5 hG5 HP.out.2.2;have x5:w5.cell? ⟨w.heap.size+1+1,0,none⟩=some (.slice Av l cv):=(Lib.cell_of_heap (HI.out.call hb6 hn5).box _).trans rfl;have x6:(w5.alloc (.cells #[.slice A5 l5 c5] 23)).cell? ⟨w.heap.size+1+1,0,none⟩=some (.slice Av l cv):=(Lib.cell_of_heap ((HI.out.call hb6 hn5).call (below_new _ _) ((Nf.start _).alloc _ _)).box _).trans rfl;rw[HP.out.1] at hrun hI7;rw[HP.out.2.1] at hI7;have HI7:=hd_ hI7;clear hI7 hG5 hb5 hn5 hb6))
          all_goals
            clear hrun g0 g1 x5 x6 e2 e3 HC
            go_wp2_with fail
            go_meet
            exact⟨A7,_,c7,HI7⟩
        · obtain rfl:lp=0:=by omega
          have hTP:P=TP:=by
            have:=HTP.out
            unfold narrowP at this
            rw[if_pos HX.out.2.2.2.2.2.2.2.2] at this
            exact this
          have hI:=HI.out
          rw[hTP] at hI
          have HI:=hd_ hI
          clear hI hTP
          go_wp2_with fail
          go_meet
          exact⟨Av,l,cv,HI⟩
      case rest=>
        obtain⟨Av,n,cv,HI⟩:=hcut
        obtain⟨hS,hp,he,sP,sX,sp,se,hPl,hpl⟩:=HX.out
        have e5:wc.cell? ⟨w.heap.size,1,none⟩=some (.slice B m d):=(Lib.cell_of_heap HI.out.arg _).trans rfl
        have HC1:=hd_ (copies_any (hS.exclude.below HI.out.bel) sX)
        have HY:=hd_ (And.intro he (And.intro se (show X.length≤1048576 from sX.1)))
        clear hS hp he sP sX sp se hPl hpl HX HTP
        go_wp2_with fail
        refine HC1.out.mono ?_
        rintro e5' w5 ⟨hb5,hn5,A5,l5,c5,rfl,G1⟩
        have HC2:=hd_ (copies_any (HY.out.1.below (below_then HI.out.bel hb5 (Nat.le_refl _))) HY.out.2.1)
        have H1:=hd_ (And.intro hb5 (And.intro hn5 G1))
        clear hb5 hn5 G1 HC1 e5
        go_wp2_with fail
        refine HC2.out.mono ?_
        rintro e6' w6 ⟨hb6,hn6,A6,l6,c6,rfl,G2⟩
        obtain⟨A7,l7,c7,w7,hrun,G3,hb7,hn7⟩:=ex_join H1.out.1 H1.out.2.1 H1.out.2.2 hb6 hn6 G2 HY.out.2.2 HY.out.2.1.1
        obtain⟨w8,hw8⟩:=nm_ (w7.setCell ⟨w.heap.size+1+1,1,none⟩ (.slice A7 l7 c7))
        obtain⟨w9,hw9⟩:=nm_ (w8.setCell ⟨w.heap.size+1,0,none⟩ (.slice Av n cv))
        obtain⟨w10,hw10⟩:=nm_ (w9.setCell ⟨w.heap.size+1,1,none⟩ (.slice A7 l7 c7))
        obtain⟨⟨x0,f0⟩,⟨x1,x2⟩,⟨x3,f3⟩,⟨x4,f4⟩,⟨x5,x6⟩,hfin⟩:=fin13 HI.out hb7 hn7 G3 hw8 hw9 hw10
        have HF:=hd_ hfin
        clear hb6 hn6 G2 HC2 G3 hb7 hn7 hfin H1 HY HI
        go_wp2_with (at_builtin;refine wpl_append rfl (.tmp 37) (.tmp 39) 23 rfl _ _ _ rfl rfl hrun ?_)
        refine bodyPost_ret (v:=.agg #[.slice Av n cv,.slice A7 l7 c7]) ?_ rfl HF.out
        simp[results,Try.results9,go_sem,x5,x6]
end Go.Proofs.Ytclmaglkekkigaa.nmc
