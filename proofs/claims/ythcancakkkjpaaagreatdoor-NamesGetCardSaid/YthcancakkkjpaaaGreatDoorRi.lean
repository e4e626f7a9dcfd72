/- The program's Put and PutPrinc. -/
import Derived.Test.YthcancakkkjpaaaGreatDoorRh
namespace Go.Proofs.YthcancakkkjpaaaGreatDoor.nmc
open Go.RowKit Go.Proofs.YthcancakkkjpaaaGreatDoor.tlvc Go.Proofs.YthcancakkkjpaaaGreatDoor.tlvd Go.Proofs.YthcancakkkjpaaaGreatDoor.ndc Go.Proofs.YthcancakkkjpaaaGreatDoor.txc Go.Proofs.YthcancakkkjpaaaGreatDoor.txm Go.Proofs.YthcancakkkjpaaaGreatDoor.intc Go.Proofs.YthcancakkkjpaaaGreatDoor.intm
set_option linter.unusedVariables false
set_option linter.unusedSimpArgs false
theorem nameF_no {l : List At} (h : 8 < l.length) : nameF l = none := by
  unfold nameF rightN
  rw [decide_eq_false (by omega : ¬ l.length ≤ 8)]
  rfl
theorem nameF_seq {l : List At} (h : l.length ≤ 8) : nameF l = (seqF attrF l).map (.mk 48 []) := by
  rw [seqF_attr]
  unfold nameF rightN
  rw [decide_eq_true h, Bool.true_and]
  cases l.all attrOK <;> rfl
set_option maxRecDepth 100000 in
set_option maxHeartbeats 4000000 in
theorem put_any (B : Nat → Prop) (A : Option Addr) (len cap : Nat) (xs : List At) (w : World) (hl : xs.length = len) (hL : Lst atE B w A xs) (hc : len ≤ cap) (hm : cap ≤ maxLen) (hT : Tabs w) :
    Calls Tryz.prog 12 #[.slice A len cap] w (NPost0 (fun g => w.heap.size ≤ g) w (nameF xs)) := by
  obtain ⟨W0, hW0⟩ : ∃ x, w.alloc (.cells #[.int .u8 0, .slice none 0 0, .slice none 0 0] 25) = x := ⟨_, rfl⟩
  have hb0 : Below w.heap.size w W0 := by rw [← hW0]; exact below_new _ _
  have p0 : W0.heap[w.heap.size]? = some (.cells #[.int .u8 0, .slice none 0 0, .slice none 0 0] 25) := by rw [← hW0]; exact heap_new_ _ _
  have hz0 : W0.heap.size = w.heap.size + 1 := by rw [← hW0]; simp
  by_cases hbad : 8 < len
  · rw [nameF_no (by omega)]
    obtain ⟨r0, r1, r2, hB⟩ := res3 (y0 := .int .u8 0) (y1 := .slice none 0 0) (y2 := .slice none 0 0) (Nat.le_refl _) hb0 p0
    have f0 := Lib.frozen_of_heap p0 0
    have f1 := Lib.frozen_of_heap p0 1
    have f2 := Lib.frozen_of_heap p0 2
    have s0 := (Lib.cell_of_heap p0 0).trans rfl
    have s1 := (Lib.cell_of_heap p0 1).trans rfl
    have s2 := (Lib.cell_of_heap p0 2).trans rfl
    have HE := Lib.hid hB
    have hbz : (8 : Int) < (len : Int) := by omega
    clear hB hb0 p0 hz0 hT hL
    go_enter Tryz.func12, Tryz.ntmps12
    go_wp2_with fail
    refine bodyPost_ret (v := .tuple #[.agg #[.int .u8 0, .slice none 0 0, .slice none 0 0], .int .i64 91]) ?_ rfl ⟨HE.out, rfl⟩
    simp [results, Tryz.results12, go_sem, r0, r1, r2]
  · rw [nameF_seq (by omega)]
    have hbz : ¬ (8 : Int) < (len : Int) := by omega
    have hent := enters_of Tryz.func31 (by kernel_rfl) rfl
    have hcall := seqOf_attr (fun _ => False) B attrF 31 A len cap xs W0 (fun g h => h.elim) hl (hL.below hb0) hc hm (by omega) hent
      (fun x hx W hW c0 c1 hold => (putAttr_any x B c0 c1 W hold (hT.below (below_then hb0 hW (Nat.le_refl _)))).mono fun e w' h => NPost.mono (fun g hg => .inr hg) h)
    obtain ⟨R, hR⟩ : ∃ x, (seqF attrF xs).map (Nd.mk 48 []) = x := ⟨_, rfl⟩
    rw [hR] at hcall ⊢
    have HC := Lib.hid hcall
    have HB := Lib.hid (And.intro hb0 (And.intro p0 hz0))
    clear hcall hR hent hb0 p0 hz0 hT hL
    go_enter Tryz.func12, Tryz.ntmps12
    go_wp2_with fail
    refine HC.out.mono ?_
    rintro e w4 ⟨hb4, hpost⟩
    have p4 := (hb4.block w.heap.size (by have := HB.out.2.2; omega)).trans HB.out.2.1
    have hB4 := below_then HB.out.1 hb4 (Nat.le_refl _)
    have hz := HB.out.2.2
    cases R with
    | none =>
      have hpost : e = _ := hpost
      subst hpost
      obtain ⟨r0, r1, r2, hB⟩ := res3 (y0 := .int .u8 0) (y1 := .slice none 0 0) (y2 := .slice none 0 0) (Nat.le_refl _) hB4 p4
      have f0 := Lib.frozen_of_heap p4 0
      have f1 := Lib.frozen_of_heap p4 1
      have f2 := Lib.frozen_of_heap p4 2
      have s0 := (Lib.cell_of_heap p4 0).trans rfl
      have s1 := (Lib.cell_of_heap p4 1).trans rfl
      have s2 := (Lib.cell_of_heap p4 2).trans rfl
      have HE := Lib.hid hB
      clear hB hB4 p4 hb4 HC HB hz
      go_wp2_with fail
      refine bodyPost_ret (v := .tuple #[.agg #[.int .u8 0, .slice none 0 0, .slice none 0 0], .int .i64 91]) ?_ rfl ⟨HE.out, rfl⟩
      simp [results, Tryz.results12, go_sem, r0, r1, r2]
    | some n =>
      obtain ⟨t, A5, la5, ca5, K5, lk5, ck5, rfl, hn⟩ := hpost
      obtain ⟨r0, r1, r2, hB⟩ := res3 (y0 := .int .u8 t) (y1 := .slice A5 la5 ca5) (y2 := .slice K5 lk5 ck5) (Nat.le_refl _) hB4 p4
      have hn2 := res3_nd (b := w.heap.size) (y0 := .int .u8 t) (y1 := .slice A5 la5 ca5) (y2 := .slice K5 lk5 ck5) (fun g hg => by rcases hg with hg | hg; exact hg.elim; omega) hn
      have f0 := Lib.frozen_of_heap p4 0
      have f1 := Lib.frozen_of_heap p4 1
      have f2 := Lib.frozen_of_heap p4 2
      have s0 := (Lib.cell_of_heap p4 0).trans rfl
      have s1 := (Lib.cell_of_heap p4 1).trans rfl
      have s2 := (Lib.cell_of_heap p4 2).trans rfl
      have HE := Lib.hid (And.intro hB (NdC.mono (B' := fun g => w.heap.size ≤ g) (fun g hg => by rcases hg with hg | hg; exact hg.elim; omega) _ _ _ _ hn2))
      clear hB hB4 p4 hb4 HC HB hn hn2 hz
      go_wp2_with fail
      refine bodyPost_ret (v := .tuple #[.agg #[.int .u8 t, .slice A5 la5 ca5, .slice K5 lk5 ck5], .int .i64 0]) ?_ rfl ⟨HE.out.1, _, _, _, _, _, _, _, rfl, HE.out.2⟩
      simp [results, Tryz.results12, go_sem, r0, r1, r2]
theorem princF_no {p : Pr} (h : p.names.length = 0 ∨ 8 < p.names.length) : princF p = none := by
  unfold princF rightP
  rcases h with h | h
  · rw [decide_eq_false (by omega : ¬ 1 ≤ p.names.length), Bool.and_false]; rfl
  · rw [decide_eq_false (by omega : ¬ p.names.length ≤ 8), Bool.and_false]; rfl
theorem princF_ways {p : Pr} (h1 : 1 ≤ p.names.length) (h2 : p.names.length ≤ 8) : princF p = match wordF p.realm, seqF wordF p.names with | some a, some l => some (.mk 48 [] [a, .mk 48 [] l]) | _, _ => none := by
  rw [seqF_word]
  unfold princF rightP wordF
  rw [decide_eq_true h1, decide_eq_true h2, Bool.and_true, Bool.and_true]
  cases wordOK p.realm <;> cases p.names.all wordOK <;> rfl
/-- Two nodes side by side. -/
theorem two_nodes {S : Nat → Prop} {W : World} {g : Nat} {a b : Nd} {a0 a1 a2 b0 b1 b2 : Value} {T : TypeId} {fr : Nat × Nat} (hp : W.heap[g]? = some (.cells #[a0, a1, a2, b0, b1, b2] T fr)) (hg : S g) (ha : NdC S W a a0 a1 a2) (hb : NdC S W b b0 b1 b2) : Lst ndE S W (some ⟨g, 0, none⟩) [a, b] := fun _ => ⟨g, 0, rfl, (Array.getElem?_eq_some_iff.1 hp).1, hg, fun i hi => by
  match i, hi with
  | 0, _ => exact ⟨[a0, a1, a2], fun j u hu => by
      rw [Lib.cell_of_heap hp]
      match j, hu with
      | 0, hu => exact hu
      | 1, hu => exact hu
      | 2, hu => exact hu
      | j + 3, hu => simp at hu, _, _, _, rfl, ha⟩
  | 1, _ => exact ⟨[b0, b1, b2], fun j u hu => by
      rw [Lib.cell_of_heap hp]
      match j, hu with
      | 0, hu => exact hu
      | 1, hu => exact hu
      | 2, hu => exact hu
      | j + 3, hu => simp at hu, _, _, _, rfl, hb⟩⟩
set_option maxRecDepth 100000 in
set_option maxHeartbeats 8000000 in
theorem putPrinc_any (B : Nat → Prop) (p : Pr) (c0 c1 : Value) (w : World) (hp : PrC B w p c0 c1) (hT : Tabs w) :
    Calls Tryz.prog 13 #[.agg #[c0, c1]] w (NPost0 (fun g => w.heap.size ≤ g) w (princF p)) := by
  obtain ⟨A, cap, rfl, rfl, hc, hm, hL, hs⟩ := hp
  obtain ⟨len, hlen⟩ : ∃ x, p.names.length = x := ⟨_, rfl⟩
  obtain ⟨s, hs0⟩ : ∃ x, p.realm = x := ⟨_, rfl⟩
  rw [hlen] at hc
  rw [hs0] at hs
  obtain ⟨W0, hW0⟩ : ∃ x, (w.alloc (.cells #[.string s, .slice A len cap] 35)).alloc (.cells #[.int .u8 0, .slice none 0 0, .slice none 0 0] 25) = x := ⟨_, rfl⟩
  have hb0 : Below w.heap.size w W0 := by rw [← hW0]; exact (below_new _ _).alloc (by simp) _
  have p0 : W0.heap[w.heap.size + 1]? = some (.cells #[.int .u8 0, .slice none 0 0, .slice none 0 0] 25) := by rw [← hW0]; exact heap_is (by simp)
  have q0 : W0.heap[w.heap.size]? = some (.cells #[.string s, .slice A len cap] 35) := by rw [← hW0, heap_old_ _ _ (by simp)]; exact heap_new_ _ _
  have hz0 : W0.heap.size = w.heap.size + 2 := by rw [← hW0]; simp
  have b0 : W0.cell? ⟨w.heap.size, 0, none⟩ = some (.string s) := (Lib.cell_of_heap q0 _).trans rfl
  have b1 : W0.cell? ⟨w.heap.size, 1, none⟩ = some (.slice A len cap) := (Lib.cell_of_heap q0 _).trans rfl
  rw [hlen]
  by_cases hbad : len = 0 ∨ 8 < len
  · rw [princF_no (by rw [hlen]; exact hbad)]
    obtain ⟨r0, r1, r2, hB⟩ := res3 (y0 := .int .u8 0) (y1 := .slice none 0 0) (y2 := .slice none 0 0) (Nat.le_succ _) hb0 p0
    have f0 := Lib.frozen_of_heap p0 0
    have f1 := Lib.frozen_of_heap p0 1
    have f2 := Lib.frozen_of_heap p0 2
    have s0 := (Lib.cell_of_heap p0 0).trans rfl
    have s1 := (Lib.cell_of_heap p0 1).trans rfl
    have s2 := (Lib.cell_of_heap p0 2).trans rfl
    have HE := Lib.hid hB
    clear hB hb0 p0 q0 hz0 hT hL hlen
    rcases hbad with hbad | hbad
    · subst hbad
      go_enter Tryz.func13, Tryz.ntmps13
      go_wp2_with fail
      refine bodyPost_ret (v := .tuple #[.agg #[.int .u8 0, .slice none 0 0, .slice none 0 0], .int .i64 91]) ?_ rfl ⟨HE.out, rfl⟩
      simp [results, Tryz.results13, go_sem, r0, r1, r2]
    · have hb1 : ((len : Int) == 0) = false := by rw [beq_eq_false_iff_ne]; omega
      have hb2 : ¬ (len : Int) = 0 := by omega
      have hb3 : (8 : Int) < (len : Int) := by omega
      go_enter Tryz.func13, Tryz.ntmps13
      go_wp2_with fail
      refine bodyPost_ret (v := .tuple #[.agg #[.int .u8 0, .slice none 0 0, .slice none 0 0], .int .i64 91]) ?_ rfl ⟨HE.out, rfl⟩
      simp [results, Tryz.results13, go_sem, r0, r1, r2]
  · have hb1 : ((len : Int) == 0) = false := by rw [beq_eq_false_iff_ne]; omega
    have hb2 : ¬ (len : Int) = 0 := by omega
    have hb3 : ¬ (8 : Int) < (len : Int) := by omega
    rw [princF_ways (by omega) (by omega), hs0]
    have hent := enters_of Tryz.func35 (by kernel_rfl) rfl
    have hgen := general_any s W0 hs (hT.below hb0)
    obtain ⟨rr, hrr⟩ : ∃ x, wordF s = x := ⟨_, rfl⟩
    rw [hrr] at hgen ⊢
    obtain ⟨rs, hrs⟩ : ∃ x, seqF wordF p.names = x := ⟨_, rfl⟩
    rw [hrs]
    have hseq : ∀ W, Below W0.heap.size W0 W → Calls Tryz.prog 36 #[.slice A len cap, .func (.func 35) #[] #[]] W (NPost0 (fun g => W.heap.size ≤ g) W (rs.map (Nd.mk 48 []))) := fun W hW => by
      have hBW := below_then hb0 hW (Nat.le_refl _)
      have h := seqOf_text (fun _ => False) B wordF 35 A len cap p.names W (fun g h => h.elim) hlen (hL.below hBW) hc hm (by omega) hent
        (fun x hx W' hW' c0 hold => by
          obtain ⟨e, hsz⟩ := hold
          simp only [List.cons.injEq, and_true] at e
          subst e
          exact (general_any x W' hsz (hT.below (below_then hBW hW' (Nat.le_refl _)))).mono fun e w' h => NPost.mono (fun g hg => .inr hg) h)
      rw [hrs] at h
      exact h.mono fun e w' h => NPost0.mono (fun g hg => hg.elim False.elim id) h
    have HC := Lib.hid hgen
    have HS := Lib.hid hseq
    have hat : ∀ W, Below W0.heap.size W0 W → W.heap[w.heap.size + 1]? = some (.cells #[.int .u8 0, .slice none 0 0, .slice none 0 0] 25) ∧ Below w.heap.size w W ∧ W.cell? ⟨w.heap.size, 1, none⟩ = some (.slice A len cap) := fun W hW =>
      ⟨(hW.block _ (by omega)).trans p0, below_then hb0 hW (Nat.le_refl _), (hW.cell (p := ⟨w.heap.size, 1, none⟩) (by show w.heap.size < _; omega)).trans b1⟩
    have HA := Lib.hid (And.intro hat hz0)
    clear hgen hseq hat hent hb0 p0 q0 hz0 hT hL hlen hrr hrs hs hbad
    go_enter Tryz.func13, Tryz.ntmps13
    go_wp2_with fail
    refine HC.out.mono ?_
    rintro e w1 ⟨hb4, t, A1, l1, k1, K1, m1, n1, er, rfl, hpost⟩
    have HP := Lib.hid hpost
    have hbx := below_then hb4 (below_new w1 (.cells #[.int .u8 t, .slice A1 l1 k1, .slice K1 m1 n1] 25)) (Nat.le_refl _)
    obtain ⟨p1, hB1, c1⟩ := HA.out.1 _ hbx
    have hcall := HS.out _ hbx
    have HK := Lib.hid hcall
    have HX := Lib.hid (And.intro hbx hb4)
    clear hpost hcall p1 hB1 hbx hb4 HC HS
    go_wp2_with fail
    refine HK.out.mono ?_
    rintro e w2 ⟨hb5, hpost2⟩
    have hbx2 := below_then HX.out.1 hb5 (Nat.le_refl _)
    have hq : w2.heap[w1.heap.size]? = some (.cells #[.int .u8 t, .slice A1 l1 k1, .slice K1 m1 n1] 25) := (hb5.block _ (by rw [size_new]; omega)).trans (heap_new_ _ _)
    cases rs with
    | none =>
      have hpost2 : e = _ := hpost2
      subst hpost2
      have hbx3 := below_then hbx2 (below_new w2 (.cells #[.int .u8 0, .slice none 0 0, .slice none 0 0] 25)) (Nat.le_refl _)
      obtain ⟨p3, hB3, _⟩ := HA.out.1 _ hbx3
      obtain ⟨r0, r1, r2, hB⟩ := res3 (y0 := .int .u8 0) (y1 := .slice none 0 0) (y2 := .slice none 0 0) (Nat.le_succ _) hB3 p3
      have f0 := Lib.frozen_of_heap p3 0
      have f1 := Lib.frozen_of_heap p3 1
      have f2 := Lib.frozen_of_heap p3 2
      have s0 := (Lib.cell_of_heap p3 0).trans rfl
      have s1 := (Lib.cell_of_heap p3 1).trans rfl
      have s2 := (Lib.cell_of_heap p3 2).trans rfl
      have HE := Lib.hid hB
      clear hB hB3 p3 hb5 hbx2 hbx3 hq HK HX HA HP
      by_cases her : er = 0
      · subst her
        go_wp2_with fail
        refine bodyPost_ret (v := .tuple #[.agg #[.int .u8 0, .slice none 0 0, .slice none 0 0], .int .i64 91]) ?_ rfl ⟨HE.out, by cases rr <;> rfl⟩
        simp [results, Tryz.results13, go_sem, r0, r1, r2]
      · have hne : (er == 0) = false := by simpa using her
        go_wp2_with fail
        refine bodyPost_ret (v := .tuple #[.agg #[.int .u8 0, .slice none 0 0, .slice none 0 0], .int .i64 91]) ?_ rfl ⟨HE.out, by cases rr <;> rfl⟩
        simp [results, Tryz.results13, go_sem, r0, r1, r2]
    | some l =>
      obtain ⟨t5, A5, la5, ca5, K5, lk5, ck5, rfl, hn⟩ := hpost2
      have hbx3 := below_then hbx2 (below_new w2 (.cells #[.int .u8 t5, .slice A5 la5 ca5, .slice K5 lk5 ck5] 25)) (Nat.le_refl _)
      obtain ⟨p3, hB3, _⟩ := HA.out.1 _ hbx3
      cases rr with
      | none =>
        have her : er ≠ 0 := HP.out
        have hne : (er == 0) = false := by simpa using her
        obtain ⟨r0, r1, r2, hB⟩ := res3 (y0 := .int .u8 0) (y1 := .slice none 0 0) (y2 := .slice none 0 0) (Nat.le_succ _) hB3 p3
        have f0 := Lib.frozen_of_heap p3 0
        have f1 := Lib.frozen_of_heap p3 1
        have f2 := Lib.frozen_of_heap p3 2
        have s0 := (Lib.cell_of_heap p3 0).trans rfl
        have s1 := (Lib.cell_of_heap p3 1).trans rfl
        have s2 := (Lib.cell_of_heap p3 2).trans rfl
        have HE := Lib.hid hB
        clear hB hB3 p3 hb5 hbx2 hbx3 hq HK HX HA HP hn
        go_wp2_with fail
        refine bodyPost_ret (v := .tuple #[.agg #[.int .u8 0, .slice none 0 0, .slice none 0 0], .int .i64 91]) ?_ rfl ⟨HE.out, rfl⟩
        simp [results, Tryz.results13, go_sem, r0, r1, r2]
      | some n =>
        obtain ⟨rfl, hna⟩ := HP.out
        obtain ⟨W3, hW3⟩ : ∃ x, w2.alloc (.cells #[.int .u8 t5, .slice A5 la5 ca5, .slice K5 lk5 ck5] 25) = x := ⟨_, rfl⟩
        obtain ⟨W4, hW4⟩ : ∃ x, W3.alloc (.cells #[.int .u8 t, .slice A1 l1 k1, .slice K1 m1 n1, .int .u8 t5, .slice A5 la5 ca5, .slice K5 lk5 ck5] 25) = x := ⟨_, rfl⟩
        have z1 := HX.out.2.size
        have z2 := hb5.size
        rw [size_new] at z2
        have z0 := HA.out.2
        have z3 : W3.heap.size = w2.heap.size + 1 := by rw [← hW3]; simp
        have hb34 : Below W3.heap.size W3 W4 := by rw [← hW4]; exact below_new _ _
        rw [hW3] at hB3 p3 hbx3
        have hB4 := below_then hB3 hb34 (Nat.le_refl _)
        have p4 := (hb34.block _ (by omega)).trans p3
        have p5 : W4.heap[W3.heap.size]? = some (.cells #[.int .u8 t, .slice A1 l1 k1, .slice K1 m1 n1, .int .u8 t5, .slice A5 la5 ca5, .slice K5 lk5 ck5] 25) := by rw [← hW4]; exact heap_new_ _ _
        have h13 : Below w1.heap.size w1 W3 := by
          have := below_then (below_new w1 (.cells #[.int .u8 t, .slice A1 l1 k1, .slice K1 m1 n1] 25)) hb5 (Nat.le_refl _)
          rw [← hW3]
          exact below_then this (below_new _ _) (Nat.le_refl _)
        have h23 : Below w2.heap.size w2 W3 := by rw [← hW3]; exact below_new _ _
        have na : NdC (fun g => w.heap.size + 2 ≤ g) W4 n (.int .u8 t) (.slice A1 l1 k1) (.slice K1 m1 n1) := NdC.mono (fun g hg => by omega) _ _ _ _ (NdC.below hb34 _ _ _ _ (NdC.below h13 _ _ _ _ hna))
        have nb : NdC (fun g => w.heap.size + 2 ≤ g) W4 (.mk 48 [] l) (.int .u8 t5) (.slice A5 la5 ca5) (.slice K5 lk5 ck5) := NdC.mono (fun g hg => by rw [size_new] at hg; omega) _ _ _ _ (NdC.below hb34 _ _ _ _ (NdC.below h23 _ _ _ _ hn))
        have hnd : NdC (fun g => w.heap.size + 2 ≤ g) W4 (.mk 48 [] [n, .mk 48 [] l]) (.int .u8 48) (.slice none 0 0) (.slice (some ⟨W3.heap.size, 0, none⟩) 2 2) := ndC_of (by omega) (Nat.le_refl _) (by unfold maxLen; decide) (two_nodes p5 (by omega) na nb)
        obtain ⟨r0, r1, r2, hB⟩ := res3 (y0 := .int .u8 48) (y1 := .slice none 0 0) (y2 := .slice (some ⟨W3.heap.size, 0, none⟩) 2 2) (Nat.le_succ _) hB4 p4
        have hn2 := res3_nd (b := w.heap.size + 1) (y0 := .int .u8 48) (y1 := .slice none 0 0) (y2 := .slice (some ⟨W3.heap.size, 0, none⟩) 2 2) (fun g hg => by omega) hnd
        have f0 := Lib.frozen_of_heap p4 0
        have f1 := Lib.frozen_of_heap p4 1
        have f2 := Lib.frozen_of_heap p4 2
        have s0 := (Lib.cell_of_heap p4 0).trans rfl
        have s1 := (Lib.cell_of_heap p4 1).trans rfl
        have s2 := (Lib.cell_of_heap p4 2).trans rfl
        have q3 : W3.heap[w1.heap.size]? = some (.cells #[.int .u8 t, .slice A1 l1 k1, .slice K1 m1 n1] 25) := (h23.block _ (by omega)).trans hq
        have u0 := (Lib.cell_of_heap q3 0).trans rfl
        have u1 := (Lib.cell_of_heap q3 1).trans rfl
        have u2 := (Lib.cell_of_heap q3 2).trans rfl
        have q4 : W3.heap[w2.heap.size]? = some (.cells #[.int .u8 t5, .slice A5 la5 ca5, .slice K5 lk5 ck5] 25) := by rw [← hW3]; exact heap_new_ _ _
        have x0 := (Lib.cell_of_heap q4 0).trans rfl
        have x1 := (Lib.cell_of_heap q4 1).trans rfl
        have x2 := (Lib.cell_of_heap q4 2).trans rfl
        have HE := Lib.hid (And.intro hB (NdC.mono (B' := fun g => w.heap.size ≤ g) (fun g hg => by omega) _ _ _ _ hn2))
        clear hB hB3 hB4 p3 p4 p5 hb5 hbx2 hbx3 hq HK HX HA HP hn hna na nb hnd hn2 q3 q4 h13 h23 hb34 z0 z1 z2 z3
        go_wp2_with fail
        refine bodyPost_ret (v := .tuple #[.agg #[.int .u8 48, .slice none 0 0, .slice (some ⟨W3.heap.size, 0, none⟩) 2 2], .int .i64 0]) ?_ rfl ⟨HE.out.1, _, _, _, _, _, _, _, rfl, HE.out.2⟩
        simp [results, Tryz.results13, go_sem, r0, r1, r2]
end Go.Proofs.YthcancakkkjpaaaGreatDoor.nmc
