/- What is done with keys: the document's Pow, Verify and Open; both sides within a law. -/
import Derived.Test.YtfmdmahlljbbmaaGreatDoorCh
import Derived.Test.YtfmdmahlljbbmaaGreatDoorVv
namespace Go.Proofs.YtfmdmahlljbbmaaGreatDoor.vtc
open Go.RowKit Go.Proofs.YtfmdmahlljbbmaaGreatDoor.tlvc Go.Proofs.YtfmdmahlljbbmaaGreatDoor.tmc
set_option linter.unusedVariables false
theorem HandT {L : List Tm} {n : Int} {t : Tm} (h : hand L n = some t) : (hand L n).getD (.mk 0 0 [] []) = t ∧ (hand L n).isSome = true := by rw [h]; exact ⟨rfl, rfl⟩
theorem HandN {L : List Tm} {n : Int} (h : hand L n = none) : (hand L n).getD (.mk 0 0 [] []) = .mk 0 0 [] [] ∧ (hand L n).isSome = false := by rw [h]; exact ⟨rfl, rfl⟩
set_option maxRecDepth 100000 in
set_option maxHeartbeats 16000000 in
theorem rcpow_any {Q : Nat → Prop} {rb : Nat} {od : Option Nat} {L : List Tm} {w : World} (h : Rok Q rb od L w) (b x : Int) :
    Calls Tryz.prog 11 #[.pointer (some ⟨rb, 0, none⟩), .int .i64 b, .int .i64 x] w (RInternQ Q rb od w (powL L b x)) := by
  have HH := Lib.hid h
  have H1 := Lib.hid (rterm_hand h b)
  obtain ⟨RES, hRES⟩ : ∃ r, powL L b x = r := ⟨_, rfl⟩
  rw [hRES]
  have HRES := Lib.hid hRES
  obtain ⟨T1, hT1⟩ : ∃ T, (hand L b).getD (.mk 0 0 [] []) = T := ⟨_, rfl⟩
  obtain ⟨i1, hi1⟩ : ∃ i, (hand L b).isSome = i := ⟨_, rfl⟩
  obtain ⟨T2, hT2⟩ : ∃ T, (hand L x).getD (.mk 0 0 [] []) = T := ⟨_, rfl⟩
  obtain ⟨i2, hi2⟩ : ∃ i, (hand L x).isSome = i := ⟨_, rfl⟩
  rw [hT1, hi1] at H1
  have HIS := Lib.hid (And.intro hT1 (And.intro hi1 (And.intro hT2 hi2)))
  clear h hRES hT1 hi1 hT2 hi2
  go_enter Tryz.func11, Tryz.ntmps11
  go_wp2_with fail
  refine H1.out.mono ?_
  rintro e w1 ⟨v, rfl, ⟨y0, y1, y2, y3, rfl, hy⟩, hb1⟩
  obtain ⟨so, sm, sA, sl, sc, sK, sk, sq, rfl, rfl, rfl, rfl⟩ := hy.shape
  obtain ⟨W5, hW5, hb5, pb5⟩ := own_term (wt := w1) (.int .i64 so) (.int .i64 sm) (.slice sA sl sc) (.slice sK sk sq)
  have hbw := hb1.trans (hb5.mono hb1.size)
  have h2 := rterm_hand (HH.out.below hbw) x
  rw [HIS.out.2.2.1, HIS.out.2.2.2] at h2
  have H2 := Lib.hid h2
  have HS := Lib.hid (And.intro (TmC.below hb5 _ _ _ _ _ hy) (And.intro pb5 hbw))
  have HW5 := Lib.hid hW5
  obtain ⟨b1, hb1n⟩ : ∃ x, w1.heap.size = x := ⟨_, rfl⟩
  have HB1 := Lib.hid hb1n
  clear h2 hy hb1 hb5 pb5 hbw hW5 H1
  go_wp2_with fail
  rw [HW5.out]
  clear hb1n
  refine H2.out.mono ?_
  rintro e w2 ⟨v, rfl, ⟨y0, y1, y2, y3, rfl, hy⟩, hb2⟩
  obtain ⟨to, tm, tA, tl, tc, tK, tk, tq, rfl, rfl, rfl, rfl⟩ := hy.shape
  obtain ⟨W7, hW7, hb7, pb7⟩ := own_term (wt := w2) (.int .i64 to) (.int .i64 tm) (.slice tA tl tc) (.slice tK tk tq)
  have hb57 := hb2.trans (hb7.mono hb2.size)
  have pb57 : W7.heap[b1]? = some (.cells #[.int .i64 so, .int .i64 sm, .slice sA sl sc, .slice sK sk sq] 57) := by
    rw [← HB1.out]
    exact (hb57.block _ (Array.getElem?_eq_some_iff.1 HS.out.2.1).1).trans HS.out.2.1
  have hcs := TmC.below hb57 _ _ _ _ _ HS.out.1
  have hct := TmC.below hb7 _ _ _ _ _ hy
  have hbw7 := HS.out.2.2.trans (hb57.mono HS.out.2.2.size)
  obtain ⟨b2, hb2n⟩ : ∃ x, w2.heap.size = x := ⟨_, rfl⟩
  have HW7 := Lib.hid hW7
  have HB2 := Lib.hid hb2n
  obtain ⟨a0, a1, a2, a3⟩ := boxT (Below.refl _ _) pb57
  rw [hb2n] at pb7
  obtain ⟨c0, c1, c2, c3⟩ := boxT (Below.refl _ _) pb7
  rw [← hW7] at a0 a1 a2 a3 c0 c1 c2 c3
  have HE := Lib.hid (And.intro hbw7 (And.intro hcs (And.intro hct (And.intro pb57 pb7))))
  clear hcs hct hbw7 hb57 pb57 pb7 hb2 hb7 hy H2 hW7
  cases i1 with
  | false =>
    have hr : RES = (-1, 71, L) := by
      rw [← HRES.out]
      refine powL_none (.inl ?_)
      have := HIS.out.2.1
      cases hh : hand L b with
      | none => rfl
      | some t => rw [hh] at this; cases this
    subst hr
    clear hb2n
    go_wp2_with fail
    go_ret2
    rw [HW7.out]
    exact rinternq_same HH.out HE.out.1 _ _
  | true =>
    cases i2 with
    | false =>
      have hr : RES = (-1, 71, L) := by
        rw [← HRES.out]
        refine powL_none (.inr ?_)
        have := HIS.out.2.2.2
        cases hh : hand L x with
        | none => rfl
        | some t => rw [hh] at this; cases this
      subst hr
      clear hb2n
      go_wp2_with fail
      go_ret2
      rw [HW7.out]
      exact rinternq_same HH.out HE.out.1 _ _
    | true =>
      have e1 : hand L b = some T1 := by
        have h1 := HIS.out.1
        have h2 := HIS.out.2.1
        cases hh : hand L b with
        | none => rw [hh] at h2; cases h2
        | some t => rw [hh] at h1; exact congrArg some h1
      have e2 : hand L x = some T2 := by
        have h1 := HIS.out.2.2.1
        have h2 := HIS.out.2.2.2
        cases hh : hand L x with
        | none => rw [hh] at h2; cases h2
        | some t => rw [hh] at h1; exact congrArg some h1
      have hs1 := HH.out.sz T1 (hand_mem e1)
      have hs2 := HH.out.sz T2 (hand_mem e2)
      have hpw := rpow_in T1 T2 Q Q (.agg #[.int .i64 so, .int .i64 sm, .slice sA sl sc, .slice sK sk sq]) (.agg #[.int .i64 to, .int .i64 tm, .slice tA tl tc, .slice tK tk tq]) W7 ⟨_, _, _, _, rfl, HE.out.2.1⟩ ⟨_, _, _, _, rfl, HE.out.2.2.1⟩ (by omega)
      obtain ⟨R, hR⟩ : ∃ r, powF T1 T2 = r := ⟨_, rfl⟩
      rw [hR] at hpw
      have HPW := Lib.hid hpw
      have HX := Lib.hid (And.intro e1 (And.intro e2 (And.intro hR (And.intro hs1 hs2))))
      clear hpw e1 e2 hR hs1 hs2 HIS
      go_wp2_with fail
      rw [HW7.out]
      clear hb2n
      refine HPW.out.mono ?_
      rintro e w8 ⟨v, rfl, ⟨y0, y1, y2, y3, rfl, hy⟩, hb8⟩
      obtain ⟨po, pm, pA, pl, pc, pK, pk, pq, rfl, rfl, rfl, rfl⟩ := hy.shape
      obtain ⟨W9, hW9, hb9, pb9⟩ := own_term (wt := w8) (.int .i64 po) (.int .i64 pm) (.slice pA pl pc) (.slice pK pk pq)
      have hb79 := hb8.trans (hb9.mono hb8.size)
      have hbw9 := HE.out.1.trans (hb79.mono HE.out.1.size)
      cases R with
      | none =>
        have hr : RES = (-1, 72, L) := by rw [← HRES.out]; exact powL_kind HX.out.1 HX.out.2.1 HX.out.2.2.1
        subst hr
        have HE9 := Lib.hid hbw9
        have HW9 := Lib.hid hW9
        clear hy hb8 hb9 pb9 hb79 hbw9 hW9 HPW
        go_wp2_with fail
        go_ret2
        rw [HW9.out]
        exact rinternq_same HH.out HE9.out _ _
      | some p =>
        have hr : RES = internV p L := by rw [← HRES.out]; exact powL_some HX.out.1 HX.out.2.1 HX.out.2.2.1
        subst hr
        have hsp : szT p ≤ 10000 := by
          have := powF_sz HX.out.2.2.1
          have := HX.out.2.2.2.1
          have := HX.out.2.2.2.2
          omega
        have hs7 := HE.out.1.size
        have hin := rintern_wide (t := p) (v := (.agg #[.int .i64 po, .int .i64 pm, .slice pA pl pc, .slice pK pk pq])) HH.out.rvl HH.out.qb hbw9 ⟨_, _, _, _, rfl, TmC.mono (fun g hg => by
          rcases hg with h | h | h
          · exact .inl h
          · exact .inl h
          · exact .inr (by omega)) _ _ _ _ _ (TmC.below hb9 _ _ _ _ _ hy)⟩ hsp
        have HIN := Lib.hid hin
        have HW9 := Lib.hid hW9
        obtain ⟨b3, hb3n⟩ : ∃ x, w8.heap.size = x := ⟨_, rfl⟩
        rw [hb3n] at pb9
        obtain ⟨d0, d1, d2, d3⟩ := boxT (Below.refl _ _) pb9
        rw [← hW9] at d0 d1 d2 d3
        clear hy hb8 hb9 pb9 hb79 hbw9 hW9 HPW hin hsp hs7
        go_wp2_with fail
        rw [HW9.out]
        refine HIN.out.mono ?_
        rintro e w4 hp
        have HP := Lib.hid hp
        obtain ⟨od', Q', rfl, _⟩ := hp
        clear d0 d1 d2 d3 a0 a1 a2 a3 c0 c1 c2 c3
        go_wp2
        go_ret2
        exact HP.out
end Go.Proofs.YtfmdmahlljbbmaaGreatDoor.vtc
