/- The document's Narrow: the walk. -/
import Derived.Test.YtclmaglkekkigaaOj
import Derived.Deep.DeepCutAuto
set_option maxRecDepth 100000
set_option maxHeartbeats 6400000
set_option linter.unusedVariables false
set_option linter.unusedSimpArgs false
namespace Go.Proofs.Ytclmaglkekkigaa.nmc
open Go.RowKit Go.Proofs.Ytclmaglkekkigaa.tlvc Go.Proofs.Ytclmaglkekkigaa.ndc Go.Proofs.Ytclmaglkekkigaa.txc Go.Proofs.Ytclmaglkekkigaa.txm
theorem rnarrow_any {S:Nat→Prop}{P:List (List (List At))}{X p e:List (List At)}{A B C D:Option Addr}{l c m d lp cp le ce:Nat}{w:World}(hS:SpC S w P X (.slice A l c) (.slice B m d))(hp:LsC nmE S w p (.slice C lp cp))(he:LsC nmE S w e (.slice D le ce))(sP:SmP P)(sX:SmL X)(sp:SmL p)(se:SmL e):
    Calls Try.prog 10 #[.agg #[.slice A l c,.slice B m d],.slice C lp cp,.slice D le ce] w (OldS S (narrowP P p) (X++e) w):=by
  obtain⟨W0,hW0⟩:=nm_ ((w.alloc (.cells #[.slice A l c,.slice B m d] 25)).alloc (.cells #[.slice none 0 0,.slice none 0 0] 25))
  obtain⟨e0,A1,c1,w1,hr1,hst⟩:=RInv.start hS.permit sP.1 hW0
  have HI:=hd_ hst
  have HX:=hd_ (And.intro hS (And.intro hp (And.intro he (And.intro sP (And.intro sX (And.intro sp (And.intro se (And.intro (ls4 hS.permit).1 (ls4 hp).1))))))))
  obtain⟨TP,hTP⟩:=nm_ (narrowP P p)
  rw[hTP]
  have HTP:=hd_ hTP
  clear hS hp he sP sX sp se hTP hst
  go_enter Try.func10,Try.ntmps10
  go_upto_if 15 with (at_builtin;refine wpl_append rfl (.tmp 8) (.tmp 10) 22 rfl _ _ _ rfl rfl hr1 ?_)
  clear hr1 e0 hW0
  obtain⟨ob,hob⟩:=nm_ w1.heap.size
  obtain⟨W2,hW2⟩:=nm_ (w1.alloc (.cells #[.slice A1 l c1,.slice none 0 0] 25))
  rw[hob,hW2] at HI
  rw[hob,hW2]
  clear hob hW2
  go_cut [15] (fun s15 wx=>∃(Av:Option Addr) (n cv:Nat),Hid (RInv S w ob (.slice A l c) (.slice B m d) (.slice Av n cv) (.slice none 0 0) TP wx))
  case first=>
    by_cases hp0:0<lp
    · have hpz:(0:Int)< (lp:Int):=by omega
      have hTP:P++[p]=TP:=by
        have:=HTP.out
        unfold narrowP at this
        rw[if_neg (by have:=HX.out.2.2.2.2.2.2.2.2;omega)] at this
        exact this
      have hid:=HI.out.call (w':=W2.drew) (Below.refl _ _).drew
      obtain⟨g1,A3,c3,w3,hr3,g2,g3,A4,c4,w4,hr4,g4,g5,hI4⟩:=hid.push HX.out.2.1 HX.out.2.2.2.2.2.1.1 HX.out.2.2.2.1.1
      rw[HX.out.2.2.2.2.2.2.2.1] at hr4 hI4
      rw[hTP] at hI4
      have g0:W2.cell? ⟨ob,0,none⟩=some (.slice A1 l c1):=(Lib.cell_of_heap HI.out.box _).trans rfl
      have g6:W2.drew.cell? ⟨ob,0,none⟩=some (.slice A1 l c1):=g0
      have g7:(W2.alloc (.cells #[] 27)).cell? ⟨ob,0,none⟩=some (.slice A1 l c1):=g1
      have hr5:(Builtin.append_ #[23,23] 23 #[.slice (some ⟨W2.heap.size,0,none⟩) 0 0,.slice C lp cp]).run Try.prog (W2.alloc (.cells #[] 27)).drew=.ok (.slice A3 lp c3) w3:=hr3
      have HI4:=hd_ hI4
      clear hTP hid hI4 hr3 g1
      go_wp2_with fail
      go_region_law (first | (refine step_run rfl (.tmp 18) (.tmp 19) 23 rfl _ _ _ (by simp[Act.eval]) (by simp[Act.eval]) hr5 ?_) | (refine step_run rfl (.tmp 17) (.tmp 21) 22 rfl _ _ _ (by simp[Act.eval]) (by simp[Act.eval]) hr4 ?_))
      all_goals
        clear hr5 hr4 g0 g2 g3 g4 g5 g6 g7
        go_wp2_with fail
        go_meet
        exact⟨A4,_,c4,HI4⟩
    · obtain rfl:lp=0:=by omega
      have hTP:P=TP:=by
        have:=HTP.out
        unfold narrowP at this
        rw[if_pos HX.out.2.2.2.2.2.2.2.2] at this
        exact this
      have hI:=HI.out
      rw[hTP] at hI
      have HI:=hd_ hI
      clear hI hTP
      go_wp2_with fail
      go_meet
      exact⟨A1,l,c1,HI⟩
  case rest=>
    obtain⟨Av,n,cv,HI⟩:=hcut
    obtain⟨hS,hp,he,sP,sX,sp,se,hPl,hpl⟩:=HX.out
    obtain⟨e5,A5,c5,w5,hr5,A7,l7,c7,w7,hr7,⟨x0,f0⟩,hfin⟩:=HI.out.fin hS.exclude he sX.1 se.1
    obtain⟨w8,hw8⟩:=nm_ (w7.setCell ⟨ob,1,none⟩ (.slice A7 l7 c7))
    obtain⟨⟨x1,x2⟩,⟨x3,f3⟩,hfin⟩:=hfin w8 hw8
    obtain⟨w9,hw9⟩:=nm_ (w8.setCell ⟨w.heap.size+1,0,none⟩ (.slice Av n cv))
    obtain⟨⟨x4,f4⟩,hfin⟩:=hfin w9 hw9
    obtain⟨w10,hw10⟩:=nm_ (w9.setCell ⟨w.heap.size+1,1,none⟩ (.slice A7 l7 c7))
    obtain⟨⟨x5,x6⟩,hfin⟩:=hfin w10 hw10
    have HF:=hd_ hfin
    clear hS hp he sP sX sp se hPl hpl HX HTP hfin HI
    go_wp2_with (first | (at_builtin;refine wpl_append rfl (.tmp 24) (.tmp 26) 23 rfl _ _ _ rfl rfl hr5 ?_) | (at_builtin;refine wpl_append rfl (.tmp 27) (.tmp 28) 23 rfl _ _ _ rfl rfl hr7 ?_))
    refine bodyPost_ret (v:=.agg #[.slice Av n cv,.slice A7 l7 c7]) ?_ rfl HF.out
    simp[results,Try.results10,go_sem,x5,x6]
end Go.Proofs.Ytclmaglkekkigaa.nmc
