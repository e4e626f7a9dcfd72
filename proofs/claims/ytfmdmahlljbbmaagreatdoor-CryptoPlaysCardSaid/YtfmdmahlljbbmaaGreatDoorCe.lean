/- What is done with keys: the program's Open and Verify. -/
import Derived.Test.YtfmdmahlljbbmaaGreatDoorCd
import Derived.Lib.QuietBelow
import Derived.BigQuiet
namespace Go.Proofs.YtfmdmahlljbbmaaGreatDoor.vtc
open Go.RowKit Go.Proofs.YtfmdmahlljbbmaaGreatDoor.tlvc Go.Proofs.YtfmdmahlljbbmaaGreatDoor.tmc
set_option linter.unusedVariables false
def sameB (xs ys : List Int) : Bool := (strOfNums xs).toList == (strOfNums ys).toList
theorem fit_ext : ∀ {xs ys : List Int}, Fit xs → Fit ys → Lib.bytesOf xs = Lib.bytesOf ys → xs = ys
  | [], [], _, _, _ => rfl
  | [], _ :: _, _, _, h => by simp [Lib.bytesOf] at h
  | _ :: _, [], _, _, h => by simp [Lib.bytesOf] at h
  | x :: xs, y :: ys, hx, hy, h => by
    simp only [Lib.bytesOf, List.map_cons, List.cons.injEq] at h
    have h1 := hx x (by simp)
    have h2 := hy y (by simp)
    have e : x = y := by
      have := congrArg UInt8.toNat h.1
      simp only [UInt8.toNat_ofNat'] at this
      omega
    have e2 : xs = ys := fit_ext (fun z hz => hx z (by simp [hz])) (fun z hz => hy z (by simp [hz])) h.2
    rw [e, e2]
theorem sameB_iff {xs ys : List Int} (hx : Fit xs) (hy : Fit ys) : sameB xs ys = true ↔ xs = ys := by
  unfold sameB
  rw [Lib.strOfNums_toList, Lib.strOfNums_toList, beq_iff_eq]
  exact ⟨fit_ext hx hy, fun h => by rw [h]⟩
theorem sameB_no {xs ys : List Int} (hx : Fit xs) (hy : Fit ys) (h : xs ≠ ys) : sameB xs ys = false := by
  cases e : sameB xs ys
  · rfl
  · exact absurd ((sameB_iff hx hy).1 e) h
theorem equal_any (A B : Option Addr) (n c m d : Nat) (xs ys : List Int) (w : World) (hx : Bys w A n xs) (hy : Bys w B m ys) :
    Calls Tryz.prog 40 #[.slice A n c, .slice B m d] w fun e w' => e = .returned (.bool (sameB xs ys)) ∧ w = w' := by
  have h1 := str_now hx c
  have h2 := str_now hy d
  go_enter Tryz.func40, Tryz.ntmps40
  go_wp2
  go_ret
  exact ⟨rfl, rfl⟩
/-- What is opened, or nothing. -/
def OpenPost (w : World) (r : Option (List Int)) (e : Ending) (w' : World) : Prop := ∃ A n c, e = .returned (.tuple #[.slice A n c, .bool r.isSome]) ∧ n ≤ c ∧ c ≤ maxLen ∧ Bys w' A n (r.getD []) ∧ (0 < n → ∀ g off sp, A = some ⟨g, off, sp⟩ → w.heap.size ≤ g) ∧ Below w.heap.size w w'
theorem open_none {L : List Tm} {key sealed : Int} (h : handsF L [key, sealed] = none) : openF L key sealed = none := by
  rw [handsF_two] at h
  unfold openF
  cases h1 : hand L key with
  | none => rfl
  | some k =>
    cases h2 : hand L sealed with
    | none => rfl
    | some t => rw [h1, h2] at h; cases h
theorem verify_none {L : List Tm} {pub sig : Int} {msg : List Int} (h : handsF L [pub, sig] = none) : verifyF L pub msg sig = false := by
  rw [handsF_two] at h
  unfold verifyF
  cases h1 : hand L pub with
  | none => rfl
  | some k =>
    cases h2 : hand L sig with
    | none => cases k; rename_i a b c d; cases d <;> rfl
    | some t => rw [h1, h2] at h; cases h
theorem hands_two {L : List Tm} {a b : Int} {ts : List Tm} (h : handsF L [a, b] = some ts) : ∃ s t, ts = [s, t] ∧ hand L a = some s ∧ hand L b = some t := by
  rw [handsF_two] at h
  cases h1 : hand L a with
  | none => rw [h1] at h; cases h
  | some s =>
    cases h2 : hand L b with
    | none => rw [h1, h2] at h; cases h
    | some t => rw [h1, h2] at h; cases h; exact ⟨s, t, rfl, rfl, rfl⟩
/-- One kid. -/
theorem one_kid {o m : Int} {d : List Int} {ks : List Tm} (h : rightF (.mk o m d ks) 0 = true) (ho : o = 2 ∨ o = 3 ∨ o = 4 ∨ o = 6) : ∃ x, ks = [x] := by
  have h1 := (right_mk.1 h).2.1
  have h2 : ks.length = 1 := by
    unfold aloneB at h1
    rcases ho with rfl | rfl | rfl | rfl <;> simp at h1 <;> omega
  match ks, h2 with
  | [x], _ => exact ⟨x, rfl⟩
/-- The cells of two terms, one behind the other. -/
theorem two_cells {B : Nat → Prop} {w : World} {A : Option Addr} {s t : Tm} (h : TmsZ B w A [s, t]) : ∃ g so sm sA sl sc sK sk sq to tm tA tl tc tK tk tq, A = some ⟨g, 0, none⟩ ∧
    TmC B w s (.int .i64 so) (.int .i64 sm) (.slice sA sl sc) (.slice sK sk sq) ∧ TmC B w t (.int .i64 to) (.int .i64 tm) (.slice tA tl tc) (.slice tK tk tq) ∧
    w.cell? ⟨g, 0, none⟩ = some (.int .i64 so) ∧ w.cell? ⟨g, 1, none⟩ = some (.int .i64 sm) ∧ w.cell? ⟨g, 2, none⟩ = some (.slice sA sl sc) ∧ w.cell? ⟨g, 3, none⟩ = some (.slice sK sk sq) ∧
    w.cell? ⟨g, 4, none⟩ = some (.int .i64 to) ∧ w.cell? ⟨g, 5, none⟩ = some (.int .i64 tm) ∧ w.cell? ⟨g, 6, none⟩ = some (.slice tA tl tc) ∧ w.cell? ⟨g, 7, none⟩ = some (.slice tK tk tq) := by
  obtain ⟨g, rfl, hg, hBg, hkc⟩ := h (by simp)
  obtain ⟨x0, x1, x2, x3, a0, a1, a2, a3, hx⟩ := hkc.at 0 (by simp)
  obtain ⟨y0, y1, y2, y3, b0, b1, b2, b3, hy⟩ := hkc.at 1 (by simp)
  simp only [Nat.zero_mul, Nat.zero_add, Nat.one_mul, Nat.reduceAdd] at a0 a1 a2 a3 b0 b1 b2 b3
  obtain ⟨so, sm, sA, sl, sc, sK, sk, sq, rfl, rfl, rfl, rfl⟩ := hx.shape
  obtain ⟨to, tm, tA, tl, tc, tK, tk, tq, rfl, rfl, rfl, rfl⟩ := hy.shape
  exact ⟨g, so, sm, sA, sl, sc, sK, sk, sq, to, tm, tA, tl, tc, tK, tk, tq, rfl, hx, hy, a0, a1, a2, a3, b0, b1, b2, b3⟩
/-- The cells of a term's only kid. -/
theorem kid_cells {B : Nat → Prop} {w : World} {o m : Int} {d : List Int} {x : Tm} {c0 c1 c2 : Value} {K : Option Addr} {lk ck : Nat} (h : TmC B w (.mk o m d [x]) c0 c1 c2 (.slice K lk ck)) : ∃ g off y0 y1 y2 y3, K = some ⟨g, off, none⟩ ∧ lk = 1 ∧ ck ≤ 9223372036854775807 ∧ 1 ≤ ck ∧ TmC B w x y0 y1 y2 y3 ∧
    w.cell? ⟨g, off, none⟩ = some y0 ∧ w.cell? ⟨g, off + 1, none⟩ = some y1 ∧ w.cell? ⟨g, off + 2, none⟩ = some y2 ∧ w.cell? ⟨g, off + 3, none⟩ = some y3 := by
  unfold TmC at h
  obtain ⟨_, _, _, _, _, K', ck', e, h1, h2, h3⟩ := h
  cases e
  obtain ⟨g, off, rfl, hg, hB, hkc⟩ := h3 (by simp)
  obtain ⟨y0, y1, y2, y3, a0, a1, a2, a3, hx⟩ := hkc.at 0 (by simp)
  simp only [Nat.zero_mul, Nat.add_zero] at a0 a1 a2 a3
  unfold maxLen at h2
  simp only [List.length_cons, List.length_nil, Nat.zero_add] at h1
  exact ⟨g, off, y0, y1, y2, y3, rfl, rfl, by omega, h1, hx, a0, a1, a2, a3⟩
theorem op_of {B : Nat → Prop} {w : World} {o m : Int} {d : List Int} {ks : List Tm} {c0 c1 c2 c3 : Value} (h : TmC B w (.mk o m d ks) c0 c1 c2 c3) : c0 = .int .i64 o := by
  unfold TmC at h
  exact h.1
theorem data_at {B : Nat → Prop} {w : World} {o m : Int} {d : List Int} {ks : List Tm} {c0 c1 c3 : Value} {A : Option Addr} {la ca : Nat} (h : TmC B w (.mk o m d ks) c0 c1 (.slice A la ca) c3) : la ≤ ca ∧ ca ≤ maxLen ∧ Bys w A la d ∧ (0 < la → ∀ g off sp, A = some ⟨g, off, sp⟩ → B g) := by
  unfold TmC at h
  obtain ⟨_, _, _, _, ⟨A', la', ca', e, h1, h2, h3, h4⟩, _⟩ := h
  cases e
  exact ⟨h1, h2, h3, h4⟩
theorem open_other {L : List Tm} {key sealed o m : Int} {d : List Int} {k : Tm} {ks : List Tm} (h : hand L key = some k) (hs : hand L sealed = some (.mk o m d ks)) (ho : o ≠ 4) : openF L key sealed = none := by
  unfold openF
  rw [h, hs]
  cases ks with
  | nil => rfl
  | cons x xs =>
    show (if o = 4 ∧ alikeB x k = true then some d else none) = none
    rw [if_neg fun e => ho e.1]
theorem verify_other {L : List Tm} {pub sig p m c s n : Int} {e d msg : List Int} {ks ls : List Tm} (h : hand L pub = some (.mk p m e ks)) (hs : hand L sig = some (.mk s n d ls)) (ho : p ≠ 2 ∨ s ≠ 3) : verifyF L pub msg sig = false := by
  unfold verifyF
  rw [h, hs]
  cases ks with
  | nil => cases ls <;> rfl
  | cons x xs =>
    cases ls with
    | nil => rfl
    | cons y ys => exact decide_eq_false fun e => by rcases ho with h | h; exact h e.1; exact h e.2.1
theorem ord_eq (s x : Tm) : (ordT s x = 0) = (x = s) := by
  rw [eq_iff_iff]
  exact ⟨fun h => (ordT_zero h).symm, fun h => by rw [h]; exact ordT_refl _⟩
set_option maxRecDepth 100000 in
set_option maxHeartbeats 8000000 in
theorem open_any {S : Nat → Prop} {base vb mb : Nat} {ob : Option Nat} {L : List Tm} {w : World} (hk : Vok S base vb mb ob L w) (key sealed : Int) (h1 : I64 key) (h2 : I64 sealed) :
    Calls Tryz.prog 24 #[.pointer (some ⟨vb, 0, none⟩), .int .i64 key, .int .i64 sealed] w (OpenPost w (openF L key sealed)) := by
  have hb1 : Below w.heap.size w (w.alloc (.cells #[.int .i64 key, .int .i64 sealed] 3)) := below_new _ _
  have hi := ins_two w key sealed h1 h2
  cases hh : handsF L [key, sealed] with
  | none =>
    rw [open_none hh]
    have hM := termsOf_none (c := 2) (hk.vlt.below hb1) hk.sz hi (Nat.le_refl _) (by unfold maxLen; omega) (by omega) hh
    have HM := Lib.hid (And.intro hb1 hM)
    clear hM hb1 hk hi hh
    go_enter Tryz.func24, Tryz.ntmps24
    go_wp2_with (go_at_call 39; refine HM.out.2.mono ?_; rintro e w1 ⟨rfl, hb2⟩; have HB := Lib.hid (HM.out.1.trans (hb2.mono HM.out.1.size)); clear hb2)
    refine wp_region_quiet_below (by kernel_rfl) (by kernel_rfl) ?_
    repeat (go_big_quiet_step (fail))
    refine wpQuiet_nil ?_
    intro _ hw'
    obtain ⟨⟨nq, osq⟩, hw''⟩ := hw'
    subst hw''
    have HE := Lib.hid (HB.out.trans ((below_regrown w1 nq osq).mono HB.out.size))
    go_wp2
    go_ret2
    exact ⟨none, 0, 0, rfl, Nat.le_refl _, Nat.zero_le _, Bys.nil_ _ _, fun h => absurd h (by omega), HE.out⟩
  | some ts =>
    obtain ⟨s, t, rfl, hs, ht⟩ := hands_two hh
    have hM := termsOf_some (c := 2) (hk.vlt.below hb1) hk.sz hi (Nat.le_refl _) (by unfold maxLen; omega) (by omega) hh
    have HM := Lib.hid (And.intro hb1 hM)
    have hr := hk.vlt.right t (hand_mem ht)
    obtain ⟨o, m, d, ks⟩ := t
    by_cases ho : o = 4
    · subst ho
      obtain ⟨x, rfl⟩ := one_kid hr (by omega)
      rw [open_of hs ht]
      clear hM hb1 hk hi hh hs ht hr
      by_cases hx : x = s
      · rw [if_pos ⟨rfl, alike_iff.2 hx⟩]
        have HO : Hid (ordT s x = 0) := Lib.hid (by rw [ord_eq]; exact hx)
        clear hx
        go_enter Tryz.func24, Tryz.ntmps24
        go_wp2_with (go_at_call 39; refine HM.out.2.mono ?_; rintro e w1 ⟨A1, c1, rfl, hl1, hc1, hm1, hz1, hb2⟩)
        have hm9 : c1 ≤ 9223372036854775807 := by unfold maxLen at hm1; omega
        obtain ⟨g, so, sm, sA, sl, sc, sK, sk, sq, to, tm, tA, tl, tc, tK, tk, tq, rfl, hcs, hct, a0, a1, a2, a3, a4, a5, a6, a7⟩ := two_cells hz1
        obtain rfl := (Value.int.inj (op_of hct)).2
        have z0 := fun d os => cell_regrown a0 d os
        have z1 := fun d os => cell_regrown a1 d os
        have z2 := fun d os => cell_regrown a2 d os
        have z3 := fun d os => cell_regrown a3 d os
        have z4 := fun d os => cell_regrown a4 d os
        have z5 := fun d os => cell_regrown a5 d os
        have z6 := fun d os => cell_regrown a6 d os
        have z7 := fun d os => cell_regrown a7 d os
        obtain ⟨g2, off2, y0, y1, y2, y3, rfl, rfl, hq9, hq1, hcx, k0, k1, k2, k3⟩ := kid_cells hct
        have i0 := fun d os => cell_regrown k0 d os
        have i1 := fun d os => cell_regrown k1 d os
        have i2 := fun d os => cell_regrown k2 d os
        have i3 := fun d os => cell_regrown k3 d os
        have HORD := Lib.hid fun d os => (by have := order_any s x _ _ (.agg #[.int .i64 so, .int .i64 sm, .slice sA sl sc, .slice sK sk sq]) (.agg #[y0, y1, y2, y3]) (Sort.grow (redrawn w1 d) os) ⟨_, _, _, _, rfl, TmC.below (below_regrown w1 d os) _ _ _ _ _ hcs⟩ ⟨_, _, _, _, rfl, TmC.below (below_regrown w1 d os) _ _ _ _ _ hcx⟩; rw [HO.out] at this; exact this : Calls Tryz.prog 41 #[.agg #[.int .i64 so, .int .i64 sm, .slice sA sl sc, .slice sK sk sq], .agg #[y0, y1, y2, y3]] (Sort.grow (redrawn w1 d) os) fun e w' => e = .returned (.int .i64 0) ∧ Below (Sort.grow (redrawn w1 d) os).heap.size (Sort.grow (redrawn w1 d) os) w')
        have HB := Lib.hid (And.intro (data_at hct) hb2)
        clear hct hcs hcx hz1 hb2 hm1 hl1 a0 a1 a2 a3 a4 a5 a6 a7 k0 k1 k2 k3
        refine wp_region_quiet_below (by kernel_rfl) (by kernel_rfl) ?_
        repeat (go_big_quiet_step ((go_at_call 41; refine Calls.regrown_of (HORD.out _ _))))
        refine wpQuiet_nil ?_
        intro _ hw'
        obtain ⟨⟨nq, osq⟩, hw''⟩ := hw'
        subst hw''
        have c6 := z6 nq osq
        have HE := Lib.hid (HM.out.1.trans ((HB.out.2.trans ((below_regrown w1 nq osq).mono HB.out.2.size)).mono HM.out.1.size))
        clear z0 z1 z2 z3 z4 z5 z6 z7 i0 i1 i2 i3 HORD
        go_wp2
        go_ret2
        obtain ⟨q1, q2, q3, q4⟩ := HB.out.1
        exact ⟨tA, tl, tc, rfl, q1, q2, q3.below (below_regrown w1 nq osq), fun hl g off sp e => Nat.le_trans HM.out.1.size (q4 hl g off sp e), HE.out⟩
      · rw [if_neg fun e => hx (alike_iff.1 e.2)]
        obtain ⟨r, hr⟩ : ∃ y, ordT s x = y := ⟨_, rfl⟩
        have hr0 : ¬ r = 0 := fun e => hx (by rw [← ord_eq, hr]; exact e)
        have hr1 : (r != 0) = true := by simp [hr0]
        have HO := Lib.hid hr
        clear hx hr
        go_enter Tryz.func24, Tryz.ntmps24
        go_wp2_with (go_at_call 39; refine HM.out.2.mono ?_; rintro e w1 ⟨A1, c1, rfl, hl1, hc1, hm1, hz1, hb2⟩)
        have hm9 : c1 ≤ 9223372036854775807 := by unfold maxLen at hm1; omega
        obtain ⟨g, so, sm, sA, sl, sc, sK, sk, sq, to, tm, tA, tl, tc, tK, tk, tq, rfl, hcs, hct, a0, a1, a2, a3, a4, a5, a6, a7⟩ := two_cells hz1
        obtain rfl := (Value.int.inj (op_of hct)).2
        have z0 := fun d os => cell_regrown a0 d os
        have z1 := fun d os => cell_regrown a1 d os
        have z2 := fun d os => cell_regrown a2 d os
        have z3 := fun d os => cell_regrown a3 d os
        have z4 := fun d os => cell_regrown a4 d os
        have z5 := fun d os => cell_regrown a5 d os
        have z6 := fun d os => cell_regrown a6 d os
        have z7 := fun d os => cell_regrown a7 d os
        obtain ⟨g2, off2, y0, y1, y2, y3, rfl, rfl, hq9, hq1, hcx, k0, k1, k2, k3⟩ := kid_cells hct
        have i0 := fun d os => cell_regrown k0 d os
        have i1 := fun d os => cell_regrown k1 d os
        have i2 := fun d os => cell_regrown k2 d os
        have i3 := fun d os => cell_regrown k3 d os
        have HORD := Lib.hid fun d os => (by have := order_any s x _ _ (.agg #[.int .i64 so, .int .i64 sm, .slice sA sl sc, .slice sK sk sq]) (.agg #[y0, y1, y2, y3]) (Sort.grow (redrawn w1 d) os) ⟨_, _, _, _, rfl, TmC.below (below_regrown w1 d os) _ _ _ _ _ hcs⟩ ⟨_, _, _, _, rfl, TmC.below (below_regrown w1 d os) _ _ _ _ _ hcx⟩; rw [HO.out] at this; exact this : Calls Tryz.prog 41 #[.agg #[.int .i64 so, .int .i64 sm, .slice sA sl sc, .slice sK sk sq], .agg #[y0, y1, y2, y3]] (Sort.grow (redrawn w1 d) os) fun e w' => e = .returned (.int .i64 r) ∧ Below (Sort.grow (redrawn w1 d) os).heap.size (Sort.grow (redrawn w1 d) os) w')
        have HB := Lib.hid (And.intro (data_at hct) hb2)
        clear hct hcs hcx hz1 hb2 hm1 hl1 a0 a1 a2 a3 a4 a5 a6 a7 k0 k1 k2 k3
        refine wp_region_quiet_below (by kernel_rfl) (by kernel_rfl) ?_
        repeat (go_big_quiet_step ((go_at_call 41; refine Calls.regrown_of (HORD.out _ _))))
        refine wpQuiet_nil ?_
        intro _ hw'
        obtain ⟨⟨nq, osq⟩, hw''⟩ := hw'
        subst hw''
        clear z0 z1 z2 z3 z4 z5 z6 z7 i0 i1 i2 i3 HORD
        have HE := Lib.hid (HM.out.1.trans ((HB.out.2.trans ((below_regrown w1 nq osq).mono HB.out.2.size)).mono HM.out.1.size))
        go_wp2
        go_ret2
        exact ⟨none, 0, 0, rfl, Nat.le_refl _, Nat.zero_le _, Bys.nil_ _ _, fun h => absurd h (by omega), HE.out⟩
    · rw [open_other hs ht ho]
      have ho1 : (o != 4) = true := by simp [ho]
      clear hM hb1 hk hi hh hs ht hr
      go_enter Tryz.func24, Tryz.ntmps24
      go_wp2_with (go_at_call 39; refine HM.out.2.mono ?_; rintro e w1 ⟨A1, c1, rfl, hl1, hc1, hm1, hz1, hb2⟩)
      have hm9 : c1 ≤ 9223372036854775807 := by unfold maxLen at hm1; omega
      obtain ⟨g, so, sm, sA, sl, sc, sK, sk, sq, to, tm, tA, tl, tc, tK, tk, tq, rfl, hcs, hct, a0, a1, a2, a3, a4, a5, a6, a7⟩ := two_cells hz1
      obtain rfl := (Value.int.inj (op_of hct)).2
      have z0 := fun d os => cell_regrown a0 d os
      have z1 := fun d os => cell_regrown a1 d os
      have z2 := fun d os => cell_regrown a2 d os
      have z3 := fun d os => cell_regrown a3 d os
      have z4 := fun d os => cell_regrown a4 d os
      have z5 := fun d os => cell_regrown a5 d os
      have z6 := fun d os => cell_regrown a6 d os
      have z7 := fun d os => cell_regrown a7 d os
      have HB := Lib.hid (And.intro True.intro hb2)
      clear hct hcs hz1 hb2 hm1 hl1 a0 a1 a2 a3 a4 a5 a6 a7
      refine wp_region_quiet_below (by kernel_rfl) (by kernel_rfl) ?_
      repeat (go_big_quiet_step (fail))
      refine wpQuiet_nil ?_
      intro _ hw'
      obtain ⟨⟨nq, osq⟩, hw''⟩ := hw'
      subst hw''
      clear z0 z1 z2 z3 z4 z5 z6 z7
      have HE := Lib.hid (HM.out.1.trans ((HB.out.2.trans ((below_regrown w1 nq osq).mono HB.out.2.size)).mono HM.out.1.size))
      go_wp2
      go_ret2
      exact ⟨none, 0, 0, rfl, Nat.le_refl _, Nat.zero_le _, Bys.nil_ _ _, fun h => absurd h (by omega), HE.out⟩
set_option maxRecDepth 100000 in
set_option maxHeartbeats 8000000 in
theorem verify_any {S : Nat → Prop} {base vb mb : Nat} {ob : Option Nat} {L : List Tm} {w : World} (hk : Vok S base vb mb ob L w) (pub sig : Int) (h1 : I64 pub) (h2 : I64 sig) (D : Option Addr) (la ca : Nat) (msg : List Int) (hd : Bys w D la msg) :
    Calls Tryz.prog 22 #[.pointer (some ⟨vb, 0, none⟩), .int .i64 pub, .slice D la ca, .int .i64 sig] w fun e w' => e = .returned (.bool (verifyF L pub msg sig)) ∧ Below w.heap.size w w' := by
  have hb1 : Below w.heap.size w (w.alloc (.cells #[.int .i64 pub, .int .i64 sig] 3)) := below_new _ _
  have hi := ins_two w pub sig h1 h2
  cases hh : handsF L [pub, sig] with
  | none =>
    rw [verify_none hh]
    have hM := termsOf_none (c := 2) (hk.vlt.below hb1) hk.sz hi (Nat.le_refl _) (by unfold maxLen; omega) (by omega) hh
    have HM := Lib.hid (And.intro hb1 hM)
    clear hM hb1 hk hi hh hd
    go_enter Tryz.func22, Tryz.ntmps22
    go_wp2_with (go_at_call 39; refine HM.out.2.mono ?_; rintro e w1 ⟨rfl, hb2⟩; have HB := Lib.hid (HM.out.1.trans (hb2.mono HM.out.1.size)); clear hb2)
    go_ret
    exact ⟨rfl, HB.out⟩
  | some ts =>
    obtain ⟨s, t, rfl, hs, ht⟩ := hands_two hh
    have hM := termsOf_some (c := 2) (hk.vlt.below hb1) hk.sz hi (Nat.le_refl _) (by unfold maxLen; omega) (by omega) hh
    have HM := Lib.hid (And.intro hb1 hM)
    have hrs := hk.vlt.right s (hand_mem hs)
    have hrt := hk.vlt.right t (hand_mem ht)
    obtain ⟨p, pm, pd, pks⟩ := s
    obtain ⟨o, m, d, ks⟩ := t
    by_cases hp : p = 2
    · subst hp
      by_cases ho : o = 3
      · subst ho
        obtain ⟨x, rfl⟩ := one_kid hrs (by omega)
        obtain ⟨y, rfl⟩ := one_kid hrt (by omega)
        rw [verify_of hs ht]
        obtain ⟨RES, hRES⟩ : ∃ b, decide ((2 : Int) = 2 ∧ (3 : Int) = 3 ∧ d = msg ∧ alikeB x y = true) = b := ⟨_, rfl⟩
        rw [hRES]
        have HRS := Lib.hid hRES
        clear hRES
        have HD := Lib.hid (hd.below hb1)
        clear hM hb1 hk hi hh hs ht hrs hrt hd
        go_enter Tryz.func22, Tryz.ntmps22
        go_wp2_with (go_at_call 39; refine HM.out.2.mono ?_; rintro e w1 ⟨A1, c1, rfl, hl1, hc1, hm1, hz1, hb2⟩; have hm9 : c1 ≤ 9223372036854775807 := (by unfold maxLen at hm1; omega); obtain ⟨g, so, sm, sA, sl, sc, sK, sk, sq, to, tm, tA, tl, tc, tK, tk, tq, rfl, hcs, hct, a0, a1, a2, a3, a4, a5, a6, a7⟩ := two_cells hz1; obtain rfl := (Value.int.inj (op_of hct)).2; obtain rfl := (Value.int.inj (op_of hcs)).2)
        have z0 := fun d os => cell_regrown a0 d os
        have z1 := fun d os => cell_regrown a1 d os
        have z2 := fun d os => cell_regrown a2 d os
        have z3 := fun d os => cell_regrown a3 d os
        have z4 := fun d os => cell_regrown a4 d os
        have z5 := fun d os => cell_regrown a5 d os
        have z6 := fun d os => cell_regrown a6 d os
        have z7 := fun d os => cell_regrown a7 d os
        obtain ⟨g2, off2, y0, y1, y2, y3, rfl, rfl, hq9, hq1, hcx, k0, k1, k2, k3⟩ := kid_cells hct
        obtain ⟨g3, off3, x0, x1, x2, x3, rfl, rfl, hp9, hp1, hcy, j0, j1, j2, j3⟩ := kid_cells hcs
        have i0 := fun d os => cell_regrown k0 d os
        have i1 := fun d os => cell_regrown k1 d os
        have i2 := fun d os => cell_regrown k2 d os
        have i3 := fun d os => cell_regrown k3 d os
        have l0 := fun d os => cell_regrown j0 d os
        have l1 := fun d os => cell_regrown j1 d os
        have l2 := fun d os => cell_regrown j2 d os
        have l3 := fun d os => cell_regrown j3 d os
        obtain ⟨_, _, q3, _⟩ := data_at hct
        have hfd := q3.fit
        have hfm := HD.out.fit
        obtain ⟨q, hq⟩ : ∃ b, sameB d msg = b := ⟨_, rfl⟩
        obtain ⟨r, hr⟩ : ∃ b, ordT x y = b := ⟨_, rfl⟩
        have HEQ := Lib.hid fun d' os => (by have := equal_any tA D tl tc la ca d msg (Sort.grow (redrawn w1 d') os) (q3.below (below_regrown w1 d' os)) ((HD.out.below hb2).below (below_regrown w1 d' os)); rw [hq] at this; exact this.mono fun e w' ⟨k1, k2⟩ => ⟨k1, by rw [← k2]; exact Below.refl _ _⟩ : Calls Tryz.prog 40 #[.slice tA tl tc, .slice D la ca] (Sort.grow (redrawn w1 d') os) fun e w' => e = .returned (.bool q) ∧ Below (Sort.grow (redrawn w1 d') os).heap.size (Sort.grow (redrawn w1 d') os) w')
        have HORD := Lib.hid fun d os => (by have := order_any x y _ _ (.agg #[x0, x1, x2, x3]) (.agg #[y0, y1, y2, y3]) (Sort.grow (redrawn w1 d) os) ⟨_, _, _, _, rfl, TmC.below (below_regrown w1 d os) _ _ _ _ _ hcy⟩ ⟨_, _, _, _, rfl, TmC.below (below_regrown w1 d os) _ _ _ _ _ hcx⟩; rw [hr] at this; exact this : Calls Tryz.prog 41 #[.agg #[x0, x1, x2, x3], .agg #[y0, y1, y2, y3]] (Sort.grow (redrawn w1 d) os) fun e w' => e = .returned (.int .i64 r) ∧ Below (Sort.grow (redrawn w1 d) os).heap.size (Sort.grow (redrawn w1 d) os) w')
        have HRES : Hid (RES = (q && decide (r = 0))) := Lib.hid (by
          rw [← HRS.out, Bool.eq_iff_iff, decide_eq_true_iff, Bool.and_eq_true, decide_eq_true_iff, ← hq, ← hr, sameB_iff hfd hfm, ord_eq, alike_iff]
          exact ⟨fun h => ⟨h.2.2.1, h.2.2.2.symm⟩, fun h => ⟨by first | rfl | trivial, by first | rfl | trivial, h.1, h.2.symm⟩⟩)
        have HB := Lib.hid hb2
        clear hct hcs hcx hcy hz1 hb2 hm1 hl1 k0 k1 k2 k3 j0 j1 j2 j3 q3 hfd hfm hq hr
        cases q with
        | false =>
          go_wp2_with fail
          refine wp_region_quiet_below (by kernel_rfl) (by kernel_rfl) ?_
          repeat (go_big_quiet_step ((first | (go_at_call 40; refine Calls.regrown_of (HEQ.out _ _)) | (go_at_call 41; refine Calls.regrown_of (HORD.out _ _)))))
          refine wpQuiet_nil ?_
          intro _ hw'
          obtain ⟨⟨nq, osq⟩, hw''⟩ := hw'
          subst hw''
          have HE := Lib.hid (HM.out.1.trans ((HB.out.trans ((below_regrown w1 nq osq).mono HB.out.size)).mono HM.out.1.size))
          go_wp2
          go_ret
          exact ⟨by rw [HRES.out]; rfl, HE.out⟩
        | true =>
          go_wp2_with fail
          refine wp_region_quiet_below (by kernel_rfl) (by kernel_rfl) ?_
          repeat (go_big_quiet_step ((first | (go_at_call 40; refine Calls.regrown_of (HEQ.out _ _)) | (go_at_call 41; refine Calls.regrown_of (HORD.out _ _)))))
          refine wpQuiet_nil ?_
          intro _ hw'
          obtain ⟨⟨nq, osq⟩, hw''⟩ := hw'
          subst hw''
          have HE := Lib.hid (HM.out.1.trans ((HB.out.trans ((below_regrown w1 nq osq).mono HB.out.size)).mono HM.out.1.size))
          go_wp2
          go_ret
          exact ⟨by rw [HRES.out]; simp; rw [Bool.eq_iff_iff]; simp, HE.out⟩
      · rw [verify_other (c := 0) hs ht (.inr ho)]
        have ho1 : (o != 3) = true := by simp [ho]
        clear hM hb1 hk hi hh hs ht hrs hrt hd
        go_enter Tryz.func22, Tryz.ntmps22
        go_wp2_with (go_at_call 39; refine HM.out.2.mono ?_; rintro e w1 ⟨A1, c1, rfl, hl1, hc1, hm1, hz1, hb2⟩; have hm9 : c1 ≤ 9223372036854775807 := (by unfold maxLen at hm1; omega); obtain ⟨g, so, sm, sA, sl, sc, sK, sk, sq, to, tm, tA, tl, tc, tK, tk, tq, rfl, hcs, hct, a0, a1, a2, a3, a4, a5, a6, a7⟩ := two_cells hz1; obtain rfl := (Value.int.inj (op_of hct)).2; obtain rfl := (Value.int.inj (op_of hcs)).2)
        have HE := Lib.hid (HM.out.1.trans (hb2.mono HM.out.1.size))
        clear hct hcs hz1 hb2 hm1 hl1
        go_wp2_with fail
        go_ret
        exact ⟨rfl, HE.out⟩
    · rw [verify_other (c := 0) hs ht (.inl hp)]
      have hp1 : (p != 2) = true := by simp [hp]
      clear hM hb1 hk hi hh hs ht hrs hrt hd
      go_enter Tryz.func22, Tryz.ntmps22
      go_wp2_with (go_at_call 39; refine HM.out.2.mono ?_; rintro e w1 ⟨A1, c1, rfl, hl1, hc1, hm1, hz1, hb2⟩; have hm9 : c1 ≤ 9223372036854775807 := (by unfold maxLen at hm1; omega); obtain ⟨g, so, sm, sA, sl, sc, sK, sk, sq, to, tm, tA, tl, tc, tK, tk, tq, rfl, hcs, hct, a0, a1, a2, a3, a4, a5, a6, a7⟩ := two_cells hz1; obtain rfl := (Value.int.inj (op_of hct)).2; obtain rfl := (Value.int.inj (op_of hcs)).2)
      have HE := Lib.hid (HM.out.1.trans (hb2.mono HM.out.1.size))
      clear hct hcs hz1 hb2 hm1 hl1
      go_wp2
      go_ret
      exact ⟨rfl, HE.out⟩
theorem verify_nil (pub sig : Int) (D : Option Addr) (la ca : Nat) (w : World) : Calls Tryz.prog 22 #[.pointer none, .int .i64 pub, .slice D la ca, .int .i64 sig] w fun e w' => e = .returned (.bool false) ∧ Below w.heap.size w w' := by
  have HB := Lib.hid (below_new w (.cells #[.int .i64 pub, .int .i64 sig] 3))
  go_enter Tryz.func22, Tryz.ntmps22
  go_wp2_with (go_at_call 39; refine (termsOf_nil _ _ _ _).mono ?_; rintro e w1 ⟨rfl, rfl⟩)
  go_ret
  exact ⟨rfl, HB.out⟩
end Go.Proofs.YtfmdmahlljbbmaaGreatDoor.vtc
