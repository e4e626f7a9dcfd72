/- Names held against one another: the document's Same, Under and Alike. What each law of names asks first: the live question. -/
import Derived.Test.YtclmaglkekkigaaYe
import Derived.Lib.QuietBelow
import Derived.BigQuiet
namespace Go.Proofs.Ytclmaglkekkigaa.nmc
open Go.RowKit Go.Proofs.Ytclmaglkekkigaa.tlvc Go.Proofs.Ytclmaglkekkigaa.ndc Go.Proofs.Ytclmaglkekkigaa.txc Go.Proofs.Ytclmaglkekkigaa.txm
set_option linter.unusedVariables false
set_option linter.unusedSimpArgs false
set_option maxRecDepth 100000 in
set_option maxHeartbeats 8000000 in
theorem rsame_any (B C:Nat→Prop)(A A':Option Addr)(n c m d:Nat)(xs ys:List At)(w:World)(hl:xs.length=n)(hl2:ys.length=m)(hL:Lst atE B w A xs)(hL2:Lst atE C w A' ys)(hc:n≤c)(hm:c≤maxLen)(hc2:m≤d)(hm2:d≤maxLen)
    (za: ∀a∈xs,a.text.size≤8796093022208) (zb: ∀a∈ys,a.text.size≤8796093022208):
    Calls Try.prog 23 #[.slice A n c,.slice A' m d] w fun e w'=>e=.returned (.bool (eqP eqA xs ys))∧Below w.heap.size w w':=by
  have h9:c≤9223372036854775807:=by unfold maxLen at hm;omega
  have h92:d≤9223372036854775807:=by unfold maxLen at hm2;omega
  by_cases hnm:n=m
  · subst hnm
    obtain⟨R,hR⟩: ∃R,eqP eqA xs ys=R:=⟨_,rfl⟩
    rw[hR]
    have HR:=Lib.hid (show eqP eqA (xs.drop 0) (ys.drop 0)=R by rw[List.drop_zero,List.drop_zero];exact hR)
    have HL:=Lib.hid (And.intro hl (And.intro hl2 (And.intro hL hL2)))
    have HZ:=Lib.hid (And.intro za zb)
    clear hl hl2 hL hL2 za zb hR hm hm2
    go_enter Try.func23,Try.ntmps23
    go_wp2_with fail
    go_loopg [5] (n+1) (fun gk s5 wx=>∃(i:Nat),s5=.int .i64 i∧i≤n∧n - i<gk∧Hid (eqP eqA (xs.drop i) (ys.drop i)=R∧Below w.heap.size w wx))
    case atStart=>exact⟨0,rfl,by omega,by omega,Lib.hid ⟨HR.out,Below.refl _ _⟩⟩
    case round=>
      obtain⟨i,rfl,hi,hgk,HI⟩:=hrel
      clear HR
      by_cases hlt:i<n
      · have hltz:(i:Int)< (n:Int):=by omega
        obtain⟨gk',rfl⟩: ∃g',gk=g'+1:=⟨gk - 1,by omega⟩
        have HN:=Lib.hid (And.intro (show i+1≤n from hlt) (show n - (i+1)<gk' by omega))
        have hix:i<xs.length:=by rw[HL.out.1];exact hlt
        have hiy:i<ys.length:=by rw[HL.out.2.1];exact hlt
        obtain⟨g,off,A0,l0,k0,s,rfl,hs,e0,e1,hx1,hx2,hx3,hx5,hxh⟩:=at_cells HL.out.2.2.1 HI.out.2 i hix
        obtain⟨g',off',A1,l1,k1,t,rfl,ht,e0',e1',hy1,hy2,hy3,hy5,hyh⟩:=at_cells HL.out.2.2.2 HI.out.2 i hiy
        have hE:=fun W (hW:Below wr.heap.size wr W)=>isame_b A0 A1 l0 k0 l1 k1 xs[i].oid ys[i].oid W (hx3.below hW) (hy3.below hW) (Nat.le_trans hx1 hx2)
        have hst:=eqP_step hix hiy HI.out.1
        rw[eqA_of] at hst
        have hP:=fun W=>refPrep_b xs[i].text W (HZ.out.1 _ (List.getElem_mem hix))
        have hQ:=fun W=>refPrep_b ys[i].text W (HZ.out.2 _ (List.getElem_mem hiy))
        rw[hs,ht] at hst
        rw[hs] at hP
        rw[ht] at hQ
        obtain⟨P,hP0⟩: ∃x,prS s=x:=⟨_,rfl⟩
        obtain⟨Q,hQ0⟩: ∃x,prS t=x:=⟨_,rfl⟩
        rw[hP0] at hP
        rw[hQ0] at hQ
        rw[hP0,hQ0] at hst
        clear hP0 hQ0
        obtain⟨o,ho⟩: ∃x,decide (xs[i].oid=ys[i].oid)=x:=⟨_,rfl⟩
        rw[ho] at hE hst
        have g0:=fun(d:Nat) (os:Array Obj)=>cell_on (below_regrown wr d os) e0
        have g1:=fun(d:Nat) (os:Array Obj)=>cell_on (below_regrown wr d os) e1
        have g2:=fun(d:Nat) (os:Array Obj)=>cell_on (below_regrown wr d os) e0'
        have g3:=fun(d:Nat) (os:Array Obj)=>cell_on (below_regrown wr d os) e1'
        have i1:(0:Int)≤(i:Int):=by omega
        have HE:=Lib.hid (fun(d:Nat) (os:Array Obj)=>hE _ (below_regrown wr d os))
        have HP:=Lib.hid hP
        have HQ:=Lib.hid hQ
        clear hE ho hx1 hx2 hx3 hx5 hxh hy1 hy2 hy3 hy5 hyh hs ht hgk e0 e1 e0' e1' hP hQ
        by_cases hpq:P=Q
        · subst hpq
          rw[decide_eq_true rfl,Bool.and_true] at hst
          have HS:=Lib.hid hst
          clear hst
          cases o
          all_goals
            go_wp2_with fail
            try dsimp only
            refine wp_region_quiet_below (by kernel_rfl) (by kernel_rfl) ?_
            repeat (go_big_quiet_step ((first | (go_at_call 28;refine Calls.regrown_of (HE.out _ _)) | (go_at_call_of 29 s;refine Calls.regrown_of (HP.out _)) | (go_at_call_of 29 t;refine Calls.regrown_of (HQ.out _)))))
            refine wpQuiet_nil ?_
            intro _ hw'
            obtain⟨⟨nq,osq⟩,hw''⟩:=hw'
            subst hw''
            have hfin:=Lib.hid (below_then HI.out.2 (below_regrown wr nq osq) (Nat.le_refl _))
            clear g0 g1 g2 g3
          · have hR:=HS.out.1 (by first |rfl |trivial)
            subst hR
            go_wp2
            go_ret
            exact⟨rfl,hfin.out⟩
          · have HS2:=Lib.hid (HS.out.2 (by first |rfl |trivial))
            go_wp2
            go_roundg gk'
            case measure=>omega
            case rel=>exact⟨i+1,by go_num,HN.out.1,HN.out.2,Lib.hid ⟨HS2.out,hfin.out⟩⟩
        · have hz1:=str_ne hpq
          have hz2:(P.toList==Q.toList)=false:=by simpa using hz1
          have hz3:(P.toList !=Q.toList)=true:=by simpa using hz1
          rw[decide_eq_false hpq,Bool.and_false] at hst
          have HS:=Lib.hid hst
          clear hst
          cases o
          all_goals
            go_wp2_with fail
            try dsimp only
            refine wp_region_quiet_below (by kernel_rfl) (by kernel_rfl) ?_
            repeat (go_big_quiet_step ((first | (go_at_call 28;refine Calls.regrown_of (HE.out _ _)) | (go_at_call_of 29 s;refine Calls.regrown_of (HP.out _)) | (go_at_call_of 29 t;refine Calls.regrown_of (HQ.out _)))))
            refine wpQuiet_nil ?_
            intro _ hw'
            obtain⟨⟨nq,osq⟩,hw''⟩:=hw'
            subst hw''
            have hfin:=Lib.hid (below_then HI.out.2 (below_regrown wr nq osq) (Nat.le_refl _))
            clear g0 g1 g2 g3
            have hR:=HS.out.1 (by first |rfl |trivial)
            subst hR
            go_wp2
            go_ret
            exact⟨rfl,hfin.out⟩
      · obtain rfl:n=i:=by omega
        have hltz: ¬(n:Int)< (n:Int):=by omega
        have hR:=eqP_end (by rw[HL.out.1];omega) (by rw[HL.out.2.1];omega) HI.out.1
        subst hR
        clear hgk
        go_wp2
        go_ret
        exact⟨rfl,HI.out.2⟩
  · rw[eqP_no (by omega)]
    have hne:((n:Int) !=m)=true:=by simp only[bne_iff_ne,ne_eq];omega
    have hne2:(n !=m)=true:=by simpa using hnm
    clear hL hL2 hl hl2 hnm
    go_enter Try.func23,Try.ntmps23
    go_wp2
    go_ret
    exact⟨rfl,Below.refl _ _⟩
set_option maxRecDepth 100000 in
set_option maxHeartbeats 4000000 in
theorem runder_any (B C:Nat→Prop)(A A':Option Addr)(n c m d:Nat)(xs ys:List At)(w:World)(hl:xs.length=n)(hl2:ys.length=m)(hL:Lst atE B w A xs)(hL2:Lst atE C w A' ys)(hc:n≤c)(hm:c≤maxLen)(hc2:m≤d)(hm2:d≤maxLen)
    (za: ∀a∈xs,a.text.size≤8796093022208) (zb: ∀a∈ys,a.text.size≤8796093022208):
    Calls Try.prog 14 #[.slice A n c,.slice A' m d] w fun e w'=>e=.returned (.bool (unP xs ys))∧Below w.heap.size w w':=by
  have h9:c≤9223372036854775807:=by unfold maxLen at hm;omega
  by_cases hmn:m≤n
  · have hcall:=rsame_any B C A A' m c m d (xs.take m) ys w (by rw[List.length_take];omega) hl2 (hL.take m) hL2 (by omega) hm hc2 hm2 (fun a ha=>za a (List.mem_of_mem_take ha)) zb
    have e:unP xs ys=eqP eqA (xs.take m) ys:=by unfold unP;rw[hl,hl2,decide_eq_true hmn,Bool.true_and]
    rw[e]
    obtain⟨R,hR⟩: ∃R,eqP eqA (xs.take m) ys=R:=⟨_,rfl⟩
    rw[hR] at hcall⊢
    have hz1:(m:Int)≤(n:Int):=by omega
    have HC:=Lib.hid hcall
    clear hcall hl hl2 hL hL2 hm hc2 hm2 za zb e hR
    go_enter Try.func14,Try.ntmps14
    go_wp2_with fail
    refine HC.out.mono ?_
    rintro e w3 ⟨rfl,hb3⟩
    have hfin:=Lib.hid hb3
    clear hb3 HC
    cases R
    all_goals
      go_wp2
      go_ret
      exact⟨rfl,hfin.out⟩
  · have e:unP xs ys=false:=by unfold unP;rw[hl,hl2,decide_eq_false hmn,Bool.false_and]
    rw[e]
    have hz1: ¬(m:Int)≤(n:Int):=by omega
    clear hl hl2 hL hL2 hm hc2 hm2 za zb e hmn
    go_enter Try.func14,Try.ntmps14
    go_wp2
    go_ret
    exact⟨rfl,Below.refl _ _⟩
/-- Wholly alike. -/
def eqW (a b:At):Bool:=decide (a.oid=b.oid) && decide (a.text=b.text)
theorem eqW_iff {a b:At}:eqW a b=true↔a=b:=by
  unfold eqW
  rw[Bool.and_eq_true,decide_eq_true_eq,decide_eq_true_eq]
  cases a;cases b
  simp
theorem eqW_list {a b:List At}:eqP eqW a b=true↔a=b:=by
  rw[eqP_iff]
  constructor
  · rintro⟨hl,h⟩
    exact List.ext_getElem hl fun i h1 h2=>eqW_iff.1 (h i h1 h2)
  · rintro rfl
    exact⟨rfl,fun i h1 h2=>eqW_iff.2 rfl⟩
set_option maxRecDepth 100000 in
set_option maxHeartbeats 8000000 in
theorem ralike_any (B C:Nat→Prop)(A A':Option Addr)(n c m d:Nat)(xs ys:List At)(w:World)(hl:xs.length=n)(hl2:ys.length=m)(hL:Lst atE B w A xs)(hL2:Lst atE C w A' ys)(hc:n≤c)(hm:c≤maxLen)(hc2:m≤d)(hm2:d≤maxLen):
    Calls Try.prog 24 #[.slice A n c,.slice A' m d] w fun e w'=>e=.returned (.bool (eqP eqW xs ys))∧Below w.heap.size w w':=by
  have h9:c≤9223372036854775807:=by unfold maxLen at hm;omega
  have h92:d≤9223372036854775807:=by unfold maxLen at hm2;omega
  by_cases hnm:n=m
  · subst hnm
    obtain⟨R,hR⟩: ∃R,eqP eqW xs ys=R:=⟨_,rfl⟩
    rw[hR]
    have HR:=Lib.hid (show eqP eqW (xs.drop 0) (ys.drop 0)=R by rw[List.drop_zero,List.drop_zero];exact hR)
    have HL:=Lib.hid (And.intro hl (And.intro hl2 (And.intro hL hL2)))
    clear hl hl2 hL hL2 hR hm hm2
    go_enter Try.func24,Try.ntmps24
    go_wp2_with fail
    go_loopg [5] (n+1) (fun gk s5 wx=>∃(i:Nat),s5=.int .i64 i∧i≤n∧n - i<gk∧Hid (eqP eqW (xs.drop i) (ys.drop i)=R∧Below w.heap.size w wx))
    case atStart=>exact⟨0,rfl,by omega,by omega,Lib.hid ⟨HR.out,Below.refl _ _⟩⟩
    case round=>
      obtain⟨i,rfl,hi,hgk,HI⟩:=hrel
      clear HR
      by_cases hlt:i<n
      · have hltz:(i:Int)< (n:Int):=by omega
        obtain⟨gk',rfl⟩: ∃g',gk=g'+1:=⟨gk - 1,by omega⟩
        have HN:=Lib.hid (And.intro (show i+1≤n from hlt) (show n - (i+1)<gk' by omega))
        have hix:i<xs.length:=by rw[HL.out.1];exact hlt
        have hiy:i<ys.length:=by rw[HL.out.2.1];exact hlt
        obtain⟨g,off,A0,l0,k0,s,rfl,hs,e0,e1,hx1,hx2,hx3,hx5,hxh⟩:=at_cells HL.out.2.2.1 HI.out.2 i hix
        obtain⟨g',off',A1,l1,k1,t,rfl,ht,e0',e1',hy1,hy2,hy3,hy5,hyh⟩:=at_cells HL.out.2.2.2 HI.out.2 i hiy
        have hE:=fun W (hW:Below wr.heap.size wr W)=>isame_b A0 A1 l0 k0 l1 k1 xs[i].oid ys[i].oid W (hx3.below hW) (hy3.below hW) (Nat.le_trans hx1 hx2)
        have hst:=eqP_step hix hiy HI.out.1
        rw[show eqW xs[i] ys[i]=(decide (xs[i].oid=ys[i].oid) && decide (xs[i].text=ys[i].text)) from rfl,hs,ht] at hst
        obtain⟨P,hP0⟩: ∃x,s=x:=⟨_,rfl⟩
        obtain⟨Q,hQ0⟩: ∃x,t=x:=⟨_,rfl⟩
        rw[hP0] at e1 hxh hx5 hst hs
        rw[hQ0] at e1' hyh hy5 hst ht
        clear hP0 hQ0
        obtain⟨o,ho⟩: ∃x,decide (xs[i].oid=ys[i].oid)=x:=⟨_,rfl⟩
        rw[ho] at hE hst
        have g0:=fun(d:Nat) (os:Array Obj)=>cell_on (below_regrown wr d os) e0
        have g1:=fun(d:Nat) (os:Array Obj)=>cell_on (below_regrown wr d os) e1
        have g2:=fun(d:Nat) (os:Array Obj)=>cell_on (below_regrown wr d os) e0'
        have g3:=fun(d:Nat) (os:Array Obj)=>cell_on (below_regrown wr d os) e1'
        have i1:(0:Int)≤(i:Int):=by omega
        have HE:=Lib.hid (fun(d:Nat) (os:Array Obj)=>hE _ (below_regrown wr d os))
        clear hE ho hx1 hx2 hx3 hx5 hxh hy1 hy2 hy3 hy5 hyh hs ht hgk e0 e1 e0' e1'
        by_cases hpq:P=Q
        · subst hpq
          rw[decide_eq_true rfl,Bool.and_true] at hst
          have HS:=Lib.hid hst
          clear hst
          cases o
          all_goals
            go_wp2_with fail
            try dsimp only
            refine wp_region_quiet_below (by kernel_rfl) (by kernel_rfl) ?_
            repeat (go_big_quiet_step ((first | (go_at_call 28;refine Calls.regrown_of (HE.out _ _)))))
            refine wpQuiet_nil ?_
            intro _ hw'
            obtain⟨⟨nq,osq⟩,hw''⟩:=hw'
            subst hw''
            have hfin:=Lib.hid (below_then HI.out.2 (below_regrown wr nq osq) (Nat.le_refl _))
            clear g0 g1 g2 g3
          · have hR:=HS.out.1 (by first |rfl |trivial)
            subst hR
            go_wp2
            go_ret
            exact⟨rfl,hfin.out⟩
          · have HS2:=Lib.hid (HS.out.2 (by first |rfl |trivial))
            go_wp2
            go_roundg gk'
            case measure=>omega
            case rel=>exact⟨i+1,by go_num,HN.out.1,HN.out.2,Lib.hid ⟨HS2.out,hfin.out⟩⟩
        · have hz1:=str_ne hpq
          have hz2:(P.toList==Q.toList)=false:=by simpa using hz1
          have hz3:(P.toList !=Q.toList)=true:=by simpa using hz1
          rw[decide_eq_false hpq,Bool.and_false] at hst
          have HS:=Lib.hid hst
          clear hst
          cases o
          all_goals
            go_wp2_with fail
            try dsimp only
            refine wp_region_quiet_below (by kernel_rfl) (by kernel_rfl) ?_
            repeat (go_big_quiet_step ((first | (go_at_call 28;refine Calls.regrown_of (HE.out _ _)))))
            refine wpQuiet_nil ?_
            intro _ hw'
            obtain⟨⟨nq,osq⟩,hw''⟩:=hw'
            subst hw''
            have hfin:=Lib.hid (below_then HI.out.2 (below_regrown wr nq osq) (Nat.le_refl _))
            clear g0 g1 g2 g3
            have hR:=HS.out.1 (by first |rfl |trivial)
            subst hR
            go_wp2
            go_ret
            exact⟨rfl,hfin.out⟩
      · obtain rfl:n=i:=by omega
        have hltz: ¬(n:Int)< (n:Int):=by omega
        have hR:=eqP_end (by rw[HL.out.1];omega) (by rw[HL.out.2.1];omega) HI.out.1
        subst hR
        clear hgk
        go_wp2
        go_ret
        exact⟨rfl,HI.out.2⟩
  · rw[eqP_no (by omega)]
    have hne:((n:Int) !=m)=true:=by simp only[bne_iff_ne,ne_eq];omega
    have hne2:(n !=m)=true:=by simpa using hnm
    clear hL hL2 hl hl2 hnm
    go_enter Try.func24,Try.ntmps24
    go_wp2
    go_ret
    exact⟨rfl,Below.refl _ _⟩
end Go.Proofs.Ytclmaglkekkigaa.nmc
namespace Go.Proofs.Ytclmaglkekkigaa.nmc
open Go.RowKit Go.Proofs.Ytclmaglkekkigaa.tlvc Go.Proofs.Ytclmaglkekkigaa.ndc Go.Proofs.Ytclmaglkekkigaa.txc Go.Proofs.Ytclmaglkekkigaa.txm
set_option linter.unusedVariables false
set_option linter.unusedSimpArgs false
theorem eqA_refl (a:At):eqA a a=true:=by unfold eqA;rw[decide_eq_true rfl,decide_eq_true rfl];rfl
theorem eqP_refl {α:Type}{p:α→α→Bool}(h: ∀a,p a a=true)(l:List α):eqP p l l=true:=eqP_iff.2 ⟨rfl,fun i h1 h2=>h _⟩
theorem ins_lit {w:World}(cs:List Int)(e:TypeId)(fr:Nat × Nat)(hf:Fit8 cs):Ins (w.alloc (.cells (cs.map (Value.int .i64)).toArray e fr)) (some ⟨w.heap.size,0,none⟩) cs.length cs:=by
  refine⟨rfl,hf,fun _=>⟨_,_,rfl,by simp,fun j hj=>?_⟩⟩
  rw[Nat.zero_add,World.cell?_alloc_mark]
  simp[List.getD_eq_getElem?_getD,List.getElem?_eq_getElem hj]
end Go.Proofs.Ytclmaglkekkigaa.nmc
