/- What is done with keys: the document's Verify and Open. -/
import Derived.Test.YtfmdmahlljbbmaaGreatDoorCh
import Derived.Test.YtfmdmahlljbbmaaGreatDoorVv
import Derived.Lib.QuietBelow
import Derived.BigQuiet
namespace Go.Proofs.YtfmdmahlljbbmaaGreatDoor.vtc
open Go.RowKit Go.Proofs.YtfmdmahlljbbmaaGreatDoor.tlvc Go.Proofs.YtfmdmahlljbbmaaGreatDoor.tmc
set_option linter.unusedVariables false
theorem isSome_of {L : List Tm} {n : Int} {T : Tm} (h1 : (hand L n).getD (.mk 0 0 [] []) = T) (h2 : (hand L n).isSome = true) : hand L n = some T := by
  cases hh : hand L n with
  | none => rw [hh] at h2; cases h2
  | some t => rw [hh] at h1; exact congrArg some h1
theorem isNone_of {L : List Tm} {n : Int} (h2 : (hand L n).isSome = false) : hand L n = none := by
  cases hh : hand L n with
  | none => rfl
  | some t => rw [hh] at h2; cases h2
theorem verify_no {L : List Tm} {pub sig : Int} {msg : List Int} (h : hand L pub = none ∨ hand L sig = none) : verifyF L pub msg sig = false := by
  refine verify_none ?_
  rw [handsF_two]
  rcases h with h | h
  · rw [h]
  · rw [h]; cases hand L pub <;> rfl
theorem open_no {L : List Tm} {key sealed : Int} (h : hand L key = none ∨ hand L sealed = none) : openF L key sealed = none := by
  refine open_none ?_
  rw [handsF_two]
  rcases h with h | h
  · rw [h]
  · rw [h]; cases hand L key <;> rfl
set_option maxRecDepth 100000 in
set_option maxHeartbeats 16000000 in
theorem rverify_any {Q : Nat → Prop} {rb : Nat} {od : Option Nat} {L : List Tm} {w : World} (h : Rok Q rb od L w) (hright : ∀ t ∈ L, rightF t 0 = true) (pub sig : Int) (D : Option Addr) (la ca : Nat) (msg : List Int) (hd : Bys w D la msg) :
    Calls Tryz.prog 23 #[.pointer (some ⟨rb, 0, none⟩), .int .i64 pub, .slice D la ca, .int .i64 sig] w fun e w' => e = .returned (.bool (verifyF L pub msg sig)) ∧ Below w.heap.size w w' := by
  obtain ⟨RES, hRES⟩ : ∃ r, verifyF L pub msg sig = r := ⟨_, rfl⟩
  rw [hRES]
  have HRES := Lib.hid hRES
  have HRT := Lib.hid hright
  have HDD := Lib.hid hd
  clear hRES hright hd
  have HH := Lib.hid h
  have H1 := Lib.hid (rterm_hand h pub)
  obtain ⟨T1, hT1⟩ : ∃ T, (hand L pub).getD (.mk 0 0 [] []) = T := ⟨_, rfl⟩
  obtain ⟨i1, hi1⟩ : ∃ i, (hand L pub).isSome = i := ⟨_, rfl⟩
  obtain ⟨T2, hT2⟩ : ∃ T, (hand L sig).getD (.mk 0 0 [] []) = T := ⟨_, rfl⟩
  obtain ⟨i2, hi2⟩ : ∃ i, (hand L sig).isSome = i := ⟨_, rfl⟩
  rw [hT1, hi1] at H1
  have HIS := Lib.hid (And.intro hT1 (And.intro hi1 (And.intro hT2 hi2)))
  clear h hT1 hi1 hT2 hi2
  obtain ⟨po, pm, pd, pks⟩ := T1
  obtain ⟨o, m, d, ks⟩ := T2
  go_enter Tryz.func23, Tryz.ntmps23
  go_wp2_with fail
  refine H1.out.mono ?_
  rintro e w1 ⟨v, rfl, ⟨y0, y1, y2, y3, rfl, hy⟩, hb1⟩
  obtain ⟨so, sm, sA, sl, sc, sK, sk, sq, rfl, rfl, rfl, rfl⟩ := hy.shape
  obtain ⟨W5, hW5, hb5, pb5⟩ := own_term (wt := w1) (.int .i64 so) (.int .i64 sm) (.slice sA sl sc) (.slice sK sk sq)
  have hbw := hb1.trans (hb5.mono hb1.size)
  have h2 := rterm_hand (HH.out.below hbw) sig
  rw [HIS.out.2.2.1, HIS.out.2.2.2] at h2
  have H2 := Lib.hid h2
  have HS := Lib.hid (And.intro (TmC.below hb5 _ _ _ _ _ hy) (And.intro pb5 hbw))
  have HW5 := Lib.hid hW5
  obtain ⟨b1, hb1n⟩ : ∃ x, w1.heap.size = x := ⟨_, rfl⟩
  have HB1 := Lib.hid hb1n
  clear h2 hy hb1 hb5 pb5 hbw hW5 H1
  go_wp2_with fail
  rw [HW5.out]
  clear hb1n
  refine H2.out.mono ?_
  rintro e w2 ⟨v, rfl, ⟨y0, y1, y2, y3, rfl, hy⟩, hb2⟩
  obtain ⟨to, tm, tA, tl, tc, tK, tk, tq, rfl, rfl, rfl, rfl⟩ := hy.shape
  obtain ⟨W7, hW7, hb7, pb7⟩ := own_term (wt := w2) (.int .i64 to) (.int .i64 tm) (.slice tA tl tc) (.slice tK tk tq)
  have hb57 := hb2.trans (hb7.mono hb2.size)
  have pb57 : W7.heap[b1]? = some (.cells #[.int .i64 so, .int .i64 sm, .slice sA sl sc, .slice sK sk sq] 57) := by
    rw [← HB1.out]
    exact (hb57.block _ (Array.getElem?_eq_some_iff.1 HS.out.2.1).1).trans HS.out.2.1
  have hcs := TmC.below hb57 _ _ _ _ _ HS.out.1
  have hct := TmC.below hb7 _ _ _ _ _ hy
  have hbw7 := HS.out.2.2.trans (hb57.mono HS.out.2.2.size)
  obtain ⟨b2, hb2n⟩ : ∃ x, w2.heap.size = x := ⟨_, rfl⟩
  have HW7 := Lib.hid hW7
  obtain ⟨a0, a1, a2, a3⟩ := boxT (Below.refl _ _) pb57
  rw [hb2n] at pb7
  obtain ⟨c0, c1, c2, c3⟩ := boxT (Below.refl _ _) pb7
  rw [← hW7] at a0 a1 a2 a3 c0 c1 c2 c3
  have HE := Lib.hid (And.intro hbw7 (And.intro hcs (And.intro hct (And.intro pb57 pb7))))
  clear hcs hct hbw7 hb57 pb57 pb7 hb2 hb7 hy H2 hW7
  have FAIL : Hid (verifyF L pub msg sig = false → RES = false) := Lib.hid fun e => by rw [← HRES.out, e]
  cases i1 with
  | false =>
    have hr := FAIL.out (verify_no (.inl (isNone_of HIS.out.2.1)))
    subst hr
    clear hb2n
    go_wp2_with fail
    go_ret
    rw [HW7.out]
    exact ⟨rfl, HE.out.1⟩
  | true =>
    cases i2 with
    | false =>
      have hr := FAIL.out (verify_no (.inr (isNone_of HIS.out.2.2.2)))
      subst hr
      clear hb2n
      go_wp2_with fail
      go_ret
      rw [HW7.out]
      exact ⟨rfl, HE.out.1⟩
    | true =>
      have e1 := isSome_of HIS.out.1 HIS.out.2.1
      have e2 := isSome_of HIS.out.2.2.1 HIS.out.2.2.2
      obtain rfl := (Value.int.inj (op_of HE.out.2.1)).2
      obtain rfl := (Value.int.inj (op_of HE.out.2.2.1)).2
      by_cases hp : so = 2
      · subst hp
        by_cases hto : to = 3
        · subst hto
          obtain ⟨x, rfl⟩ := one_kid (HRT.out _ (hand_mem e1)) (by omega)
          obtain ⟨y, rfl⟩ := one_kid (HRT.out _ (hand_mem e2)) (by omega)
          have hval := verify_of (msg := msg) e1 e2
          obtain ⟨_, hct, _⟩ := HE.out.2
          have hcs := HE.out.2.1
          obtain ⟨g2, off2, y0, y1, y2, y3, rfl, rfl, hq9, hq1, hcy, k0, k1, k2, k3⟩ := kid_cells hct
          obtain ⟨g3, off3, x0, x1, x2, x3, rfl, rfl, hp9, hp1, hcx, j0, j1, j2, j3⟩ := kid_cells hcs
          obtain ⟨_, _, q3, _⟩ := data_at hct
          have hdm := HDD.out.below HE.out.1
          obtain ⟨q, hq⟩ : ∃ b, sameB d msg = b := ⟨_, rfl⟩
          obtain ⟨r, hr⟩ : ∃ b, alikeB x y = b := ⟨_, rfl⟩
          have hv2 : RES = (q && r) := by
            rw [← HRES.out, hval, Bool.eq_iff_iff, decide_eq_true_iff, Bool.and_eq_true, ← hq, ← hr, sameB_iff q3.fit hdm.fit]
            exact ⟨fun h => ⟨h.2.2.1, h.2.2.2⟩, fun h => ⟨by first | rfl | trivial, by first | rfl | trivial, h.1, h.2⟩⟩
          have hss : ((strOfNums d).toList == (strOfNums msg).toList) = q := hq
          have HV2 := Lib.hid hv2
          have HSAME := Lib.hid fun d' os => (by have := tsame_any x y _ _ (.agg #[x0, x1, x2, x3]) (.agg #[y0, y1, y2, y3]) (Sort.grow (redrawn W7 d') os) ⟨_, _, _, _, rfl, TmC.below (below_regrown W7 d' os) _ _ _ _ _ hcx⟩ ⟨_, _, _, _, rfl, TmC.below (below_regrown W7 d' os) _ _ _ _ _ hcy⟩; rw [hr] at this; exact this : Calls Tryz.prog 42 #[.agg #[x0, x1, x2, x3], .agg #[y0, y1, y2, y3]] (Sort.grow (redrawn W7 d') os) fun e w' => e = .returned (.bool r) ∧ Below (Sort.grow (redrawn W7 d') os).heap.size (Sort.grow (redrawn W7 d') os) w')
          have HSTR := Lib.hid (And.intro (fun d' os => str_now (q3.below (below_regrown W7 d' os)) tc) (fun d' os => str_now (hdm.below (below_regrown W7 d' os)) ca))
          obtain ⟨m0, m1, m2, m3⟩ := boxT (Below.refl _ _) HE.out.2.2.2.1
          obtain ⟨n0, n1, n2, n3⟩ := boxT (Below.refl _ _) HE.out.2.2.2.2
          have z3 := fun d os => cell_regrown m3 d os
          have v2 := fun d os => cell_regrown n2 d os
          have v3 := fun d os => cell_regrown n3 d os
          have i0 := fun d os => cell_regrown k0 d os
          have i1 := fun d os => cell_regrown k1 d os
          have i2 := fun d os => cell_regrown k2 d os
          have i3 := fun d os => cell_regrown k3 d os
          have l0 := fun d os => cell_regrown j0 d os
          have l1 := fun d os => cell_regrown j1 d os
          have l2 := fun d os => cell_regrown j2 d os
          have l3 := fun d os => cell_regrown j3 d os
          clear hval hct hcs hcy hcx k0 k1 k2 k3 j0 j1 j2 j3 q3 hdm hq hr hv2 m0 m1 m2 m3 n0 n1 n2 n3 e1 e2 HRT HDD HIS HS FAIL
          go_wp2_with fail
          rw [HW7.out]
          clear hb2n a0 a1 a2 a3 c0 c1 c2 c3
          obtain ⟨s1, s2⟩ := HSTR.out
          cases q with
          | false =>
            refine wp_region_quiet_below (by kernel_rfl) (by kernel_rfl) ?_
            repeat (go_big_quiet_step ((go_at_call 42; refine Calls.regrown_of (HSAME.out _ _))))
            refine wpQuiet_nil ?_
            intro _ hw'
            obtain ⟨⟨nq, osq⟩, hw''⟩ := hw'
            subst hw''
            have HE2 := Lib.hid (HE.out.1.trans ((below_regrown W7 nq osq).mono HE.out.1.size))
            clear s1 s2 z3 v2 v3 i0 i1 i2 i3 l0 l1 l2 l3
            go_wp2
            go_ret
            exact ⟨by rw [HV2.out]; rfl, HE2.out⟩
          | true =>
            refine wp_region_quiet_below (by kernel_rfl) (by kernel_rfl) ?_
            repeat (go_big_quiet_step ((go_at_call 42; refine Calls.regrown_of (HSAME.out _ _))))
            refine wpQuiet_nil ?_
            intro _ hw'
            obtain ⟨⟨nq, osq⟩, hw''⟩ := hw'
            subst hw''
            have HE2 := Lib.hid (HE.out.1.trans ((below_regrown W7 nq osq).mono HE.out.1.size))
            clear s1 s2 z3 v2 v3 i0 i1 i2 i3 l0 l1 l2 l3
            go_wp2
            go_ret
            exact ⟨by rw [HV2.out]; simp, HE2.out⟩
        · have hr := FAIL.out (verify_other e1 e2 (.inr hto) (c := 0))
          have ho1 : (to != 3) = true := by simp [hto]
          subst hr
          clear hb2n e1 e2
          go_wp2_with fail
          go_ret
          rw [HW7.out]
          exact ⟨rfl, HE.out.1⟩
      · have hr := FAIL.out (verify_other e1 e2 (.inl hp) (c := 0))
        have hp1 : (so != 2) = true := by simp [hp]
        subst hr
        clear hb2n e1 e2
        go_wp2_with fail
        go_ret
        rw [HW7.out]
        exact ⟨rfl, HE.out.1⟩
/-- What the document opens. -/
def ROpenPost (w : World) (r : Option (List Int)) (e : Ending) (w' : World) : Prop := ∃ A n c, e = .returned (.tuple #[.slice A n c, .bool r.isSome]) ∧ Bys w' A n (r.getD []) ∧ Below w.heap.size w w'
set_option maxRecDepth 100000 in
set_option maxHeartbeats 16000000 in
theorem ropen_any {Q : Nat → Prop} {rb : Nat} {od : Option Nat} {L : List Tm} {w : World} (h : Rok Q rb od L w) (hright : ∀ t ∈ L, rightF t 0 = true) (key sealed : Int) :
    Calls Tryz.prog 25 #[.pointer (some ⟨rb, 0, none⟩), .int .i64 key, .int .i64 sealed] w (ROpenPost w (openF L key sealed)) := by
  obtain ⟨RES, hRES⟩ : ∃ r, openF L key sealed = r := ⟨_, rfl⟩
  rw [hRES]
  have HRES := Lib.hid hRES
  have HRT := Lib.hid hright
  clear hRES hright
  have HH := Lib.hid h
  have H1 := Lib.hid (rterm_hand h key)
  obtain ⟨T1, hT1⟩ : ∃ T, (hand L key).getD (.mk 0 0 [] []) = T := ⟨_, rfl⟩
  obtain ⟨i1, hi1⟩ : ∃ i, (hand L key).isSome = i := ⟨_, rfl⟩
  obtain ⟨T2, hT2⟩ : ∃ T, (hand L sealed).getD (.mk 0 0 [] []) = T := ⟨_, rfl⟩
  obtain ⟨i2, hi2⟩ : ∃ i, (hand L sealed).isSome = i := ⟨_, rfl⟩
  rw [hT1, hi1] at H1
  have HIS := Lib.hid (And.intro hT1 (And.intro hi1 (And.intro hT2 hi2)))
  clear h hT1 hi1 hT2 hi2
  obtain ⟨po, pm, pd, pks⟩ := T1
  obtain ⟨o, m, d, ks⟩ := T2
  go_enter Tryz.func25, Tryz.ntmps25
  go_wp2_with fail
  refine H1.out.mono ?_
  rintro e w1 ⟨v, rfl, ⟨y0, y1, y2, y3, rfl, hy⟩, hb1⟩
  obtain ⟨so, sm, sA, sl, sc, sK, sk, sq, rfl, rfl, rfl, rfl⟩ := hy.shape
  obtain ⟨W5, hW5, hb5, pb5⟩ := own_term (wt := w1) (.int .i64 so) (.int .i64 sm) (.slice sA sl sc) (.slice sK sk sq)
  have hbw := hb1.trans (hb5.mono hb1.size)
  have h2 := rterm_hand (HH.out.below hbw) sealed
  rw [HIS.out.2.2.1, HIS.out.2.2.2] at h2
  have H2 := Lib.hid h2
  have HS := Lib.hid (And.intro (TmC.below hb5 _ _ _ _ _ hy) (And.intro pb5 hbw))
  have HW5 := Lib.hid hW5
  obtain ⟨b1, hb1n⟩ : ∃ x, w1.heap.size = x := ⟨_, rfl⟩
  have HB1 := Lib.hid hb1n
  clear h2 hy hb1 hb5 pb5 hbw hW5 H1
  go_wp2_with fail
  rw [HW5.out]
  clear hb1n
  refine H2.out.mono ?_
  rintro e w2 ⟨v, rfl, ⟨y0, y1, y2, y3, rfl, hy⟩, hb2⟩
  obtain ⟨to, tm, tA, tl, tc, tK, tk, tq, rfl, rfl, rfl, rfl⟩ := hy.shape
  obtain ⟨W7, hW7, hb7, pb7⟩ := own_term (wt := w2) (.int .i64 to) (.int .i64 tm) (.slice tA tl tc) (.slice tK tk tq)
  have hb57 := hb2.trans (hb7.mono hb2.size)
  have pb57 : W7.heap[b1]? = some (.cells #[.int .i64 so, .int .i64 sm, .slice sA sl sc, .slice sK sk sq] 57) := by
    rw [← HB1.out]
    exact (hb57.block _ (Array.getElem?_eq_some_iff.1 HS.out.2.1).1).trans HS.out.2.1
  have hcs := TmC.below hb57 _ _ _ _ _ HS.out.1
  have hct := TmC.below hb7 _ _ _ _ _ hy
  have hbw7 := HS.out.2.2.trans (hb57.mono HS.out.2.2.size)
  obtain ⟨b2, hb2n⟩ : ∃ x, w2.heap.size = x := ⟨_, rfl⟩
  have HW7 := Lib.hid hW7
  obtain ⟨a0, a1, a2, a3⟩ := boxT (Below.refl _ _) pb57
  rw [hb2n] at pb7
  obtain ⟨c0, c1, c2, c3⟩ := boxT (Below.refl _ _) pb7
  rw [← hW7] at a0 a1 a2 a3 c0 c1 c2 c3
  have HE := Lib.hid (And.intro hbw7 (And.intro hcs (And.intro hct (And.intro pb57 pb7))))
  clear hcs hct hbw7 hb57 pb57 pb7 hb2 hb7 hy H2 hW7
  have FAIL : Hid (openF L key sealed = none → RES = none) := Lib.hid fun e => by rw [← HRES.out, e]
  cases i1 with
  | false =>
    have hr := FAIL.out (open_no (.inl (isNone_of HIS.out.2.1)))
    subst hr
    clear hb2n
    go_wp2_with fail
    go_ret2
    rw [HW7.out]
    exact ⟨none, 0, 0, rfl, Bys.nil_ _ _, HE.out.1⟩
  | true =>
    cases i2 with
    | false =>
      have hr := FAIL.out (open_no (.inr (isNone_of HIS.out.2.2.2)))
      subst hr
      clear hb2n
      go_wp2_with fail
      go_ret2
      rw [HW7.out]
      exact ⟨none, 0, 0, rfl, Bys.nil_ _ _, HE.out.1⟩
    | true =>
      have e1 := isSome_of HIS.out.1 HIS.out.2.1
      have e2 := isSome_of HIS.out.2.2.1 HIS.out.2.2.2
      obtain rfl := (Value.int.inj (op_of HE.out.2.2.1)).2
      by_cases hto : to = 4
      · subst hto
        obtain ⟨x, rfl⟩ := one_kid (HRT.out _ (hand_mem e2)) (by omega)
        have hval := open_of e1 e2
        have hct := HE.out.2.2.1
        have hcs := HE.out.2.1
        obtain ⟨g2, off2, y0, y1, y2, y3, rfl, rfl, hq9, hq1, hcy, k0, k1, k2, k3⟩ := kid_cells hct
        obtain ⟨r, hr⟩ : ∃ b, alikeB x (.mk po pm pd pks) = b := ⟨_, rfl⟩
        rw [hr] at hval
        have HVAL := Lib.hid hval
        have HSAME := Lib.hid fun d' os => (by have := tsame_any x (.mk po pm pd pks) _ _ (.agg #[y0, y1, y2, y3]) (.agg #[.int .i64 so, .int .i64 sm, .slice sA sl sc, .slice sK sk sq]) (Sort.grow (redrawn W7 d') os) ⟨_, _, _, _, rfl, TmC.below (below_regrown W7 d' os) _ _ _ _ _ hcy⟩ ⟨_, _, _, _, rfl, TmC.below (below_regrown W7 d' os) _ _ _ _ _ hcs⟩; rw [hr] at this; exact this : Calls Tryz.prog 42 #[.agg #[y0, y1, y2, y3], (.agg #[.int .i64 so, .int .i64 sm, .slice sA sl sc, .slice sK sk sq])] (Sort.grow (redrawn W7 d') os) fun e w' => e = .returned (.bool r) ∧ Below (Sort.grow (redrawn W7 d') os).heap.size (Sort.grow (redrawn W7 d') os) w')
        have HDA := Lib.hid (data_at hct)
        have hdl : tl ≤ 140737488351232 := by
          have h1 := (alone_data (right_mk.1 (HRT.out _ (hand_mem e2))).2.1).1
          have h2 := (data_at hct).2.2.1.1
          omega
        have HDL := Lib.hid hdl
        obtain ⟨m0, m1, m2, m3⟩ := boxT (Below.refl _ _) HE.out.2.2.2.1
        obtain ⟨n0, n1, n2, n3⟩ := boxT (Below.refl _ _) HE.out.2.2.2.2
        have z0 := fun d os => cell_regrown m0 d os
        have z1 := fun d os => cell_regrown m1 d os
        have z2 := fun d os => cell_regrown m2 d os
        have z3 := fun d os => cell_regrown m3 d os
        have v3 := fun d os => cell_regrown n3 d os
        have i0 := fun d os => cell_regrown k0 d os
        have i1 := fun d os => cell_regrown k1 d os
        have i2 := fun d os => cell_regrown k2 d os
        have i3 := fun d os => cell_regrown k3 d os
        clear hval hct hcs hcy k0 k1 k2 k3 hr m0 m1 m2 m3 n0 n1 n2 n3 e1 e2 HRT HIS HS FAIL hdl
        go_wp2_with fail
        rw [HW7.out]
        clear hb2n a0 a1 a2 a3 c0 c1 c2 c3
        cases r with
        | false =>
          have hr : RES = none := by rw [← HRES.out, HVAL.out]; rfl
          subst hr
          refine wp_region_quiet_below (by kernel_rfl) (by kernel_rfl) ?_
          repeat (go_big_quiet_step ((go_at_call 42; refine Calls.regrown_of (HSAME.out _ _))))
          refine wpQuiet_nil ?_
          intro _ hw'
          obtain ⟨⟨nq, osq⟩, hw''⟩ := hw'
          subst hw''
          have HE2 := Lib.hid (HE.out.1.trans ((below_regrown W7 nq osq).mono HE.out.1.size))
          clear z0 z1 z2 z3 v3 i0 i1 i2 i3
          go_wp2
          go_ret2
          exact ⟨none, 0, 0, rfl, Bys.nil_ _ _, HE2.out⟩
        | true =>
          have hr : RES = some d := by rw [← HRES.out, HVAL.out]; rfl
          subst hr
          refine wp_region_quiet_below (by kernel_rfl) (by kernel_rfl) ?_
          repeat (go_big_quiet_step ((go_at_call 42; refine Calls.regrown_of (HSAME.out _ _))))
          refine wpQuiet_nil ?_
          intro _ hw'
          obtain ⟨⟨nq, osq⟩, hw''⟩ := hw'
          subst hw''
          obtain ⟨W8, hW8⟩ : ∃ x, Sort.grow (redrawn W7 nq) osq = x := ⟨_, rfl⟩
          have hb8 : Below W7.heap.size W7 W8 := by rw [← hW8]; exact below_regrown W7 nq osq
          have hbw8 := HE.out.1.trans (hb8.mono HE.out.1.size)
          obtain ⟨A6, c6, w6, hrun, _, hba, _, hby, hl1, hl2, hl3⟩ := of_ready W8 tA tl tc d (HDA.out.2.2.1.below hb8) HDL.out (W8.alloc (.cells #[] 5)) (below_new _ _) W8.heap.size (lit_own W8)
          obtain ⟨n0, n1, n2, n3⟩ := boxT (hb8.trans ((below_new W8 (.cells #[] 5)).mono hb8.size)) HE.out.2.2.2.2
          have HE2 := Lib.hid (And.intro hby (hbw8.trans (hba.mono hbw8.size)))
          rw [hW8]
          clear z0 z1 z2 z3 v3 i0 i1 i2 i3 hba hby hl1 hl2 hl3 hb8 hbw8 hW8
          go_wp2_with (at_builtin; refine wpl_append rfl (.tmp 42) (.tmp 44) 29 rfl _ _ _ rfl rfl hrun ?_)
          go_ret2
          exact ⟨A6, tl, c6, rfl, HE2.out.1, HE2.out.2⟩
      · have hr := FAIL.out (open_other e1 e2 hto)
        have ho1 : (to != 4) = true := by simp [hto]
        subst hr
        clear hb2n e1 e2
        go_wp2_with fail
        go_ret2
        rw [HW7.out]
        exact ⟨none, 0, 0, rfl, Bys.nil_ _ _, HE.out.1⟩
end Go.Proofs.YtfmdmahlljbbmaaGreatDoor.vtc
