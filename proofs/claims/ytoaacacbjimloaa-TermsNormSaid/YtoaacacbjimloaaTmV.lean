/- The document's Same and Pow. -/
import Derived.Test.YtoaacacbjimloaaTmU
namespace Go.Proofs.Ytoaacacbjimloaa.tmc
open Go.RowKit Go.Proofs.Ytoaacacbjimloaa.tlvc
set_option linter.unusedVariables false
theorem rorder_same (n : Tm) (C1 C2 : Nat → Prop) (v u : Value) (w : World) (h : TmV C1 w n v) (k : TmV C2 w n u) : Calls Try.prog 18 #[v, u] w fun e w' => e = .returned (.int .i64 0) ∧ Below w.heap.size w w' := by
  have := rorder_any n n C1 C2 v u w h k
  rwa [ordT_refl] at this
set_option maxRecDepth 100000 in
theorem same_self (n : Tm) (C1 C2 : Nat → Prop) (v u : Value) (w : World) (h : TmV C1 w n v) (k : TmV C2 w n u) : Calls Try.prog 20 #[v, u] w fun e w' => e = .returned (.bool true) ∧ Below w.heap.size w w' := by
  obtain ⟨c0, c1, c2, c3, rfl, hc⟩ := h
  obtain ⟨e0, e1, e2, e3, rfl, he⟩ := k
  obtain ⟨oo, mm, A, la, ca, K, lk, ck, rfl, rfl, rfl, rfl⟩ := hc.shape
  obtain ⟨oo', mm', A', la', ca', K', lk', ck', rfl, rfl, rfl, rfl⟩ := he.shape
  obtain ⟨W0, hW0⟩ : ∃ y, (w.alloc (.cells #[.int .i64 oo, .int .i64 mm, .slice A la ca, .slice K lk ck] 26)).alloc (.cells #[.int .i64 oo', .int .i64 mm', .slice A' la' ca', .slice K' lk' ck'] 26) = y := ⟨_, rfl⟩
  have hb0 : Below w.heap.size w W0 := by rw [← hW0]; exact (below_new _ _).alloc (by simp) _
  have ho := rorder_same n C1 C2 (.agg #[.int .i64 oo, .int .i64 mm, .slice A la ca, .slice K lk ck]) (.agg #[.int .i64 oo', .int .i64 mm', .slice A' la' ca', .slice K' lk' ck']) W0 ⟨_, _, _, _, rfl, TmC.below hb0 _ _ _ _ _ hc⟩ ⟨_, _, _, _, rfl, TmC.below hb0 _ _ _ _ _ he⟩
  have HO := Lib.hid ho
  have HB := Lib.hid hb0
  have HW := Lib.hid hW0
  clear ho hb0 hc he hW0
  go_enter Try.func20, Try.ntmps20
  go_wp2_with fail
  rw [HW.out]
  refine HO.out.mono ?_
  rintro e w2 ⟨rfl, hb2⟩
  have hend := HB.out.trans (hb2.mono HB.out.size)
  clear HO HB hb2
  go_wp2
  go_ret
  exact ⟨rfl, hend⟩
theorem tmsb_of {B : Nat → Prop} {w : World} {o m : Int} {d : List Int} {ks : List Tm} {c0 c1 c2 : Value} {K : Option Addr} {lk ck : Nat} (h : TmC B w (.mk o m d ks) c0 c1 c2 (.slice K lk ck)) (hl : ks.length = lk) : TmsB B w K ks := by
  unfold TmC at h
  obtain ⟨_, _, _, _, _, K', ck', e, _, _, h3⟩ := h
  cases e
  exact h3
def RPowPost (w : World) (r : Option Tm) (e : Ending) (w' : World) : Prop := ∃ v', e = .returned (.tuple #[v', .bool r.isSome]) ∧ TmV (fun _ => True) w' (r.getD (.mk 0 0 [] [])) v' ∧ Below w.heap.size w w'
theorem res_end2 {w W : World} {b : Nat} {x0 x1 x2 x3 y0 y1 y2 y3 : Value} {T : TypeId} {fr : Nat × Nat} {n : Tm} {S : Nat → Prop} (hb : w.heap.size ≤ b) (hB : Below w.heap.size w W) (hres : W.heap[b]? = some (.cells #[x0, x1, x2, x3] T fr)) (hS : ∀ g, S g → g ≠ b) (h : TmC S W n y0 y1 y2 y3) :
    ((((W.setCell ⟨b, 0, none⟩ y0).setCell ⟨b, 1, none⟩ y1).setCell ⟨b, 2, none⟩ y2).setCell ⟨b, 3, none⟩ y3).cell? ⟨b, 0, none⟩ = some y0 ∧ ((((W.setCell ⟨b, 0, none⟩ y0).setCell ⟨b, 1, none⟩ y1).setCell ⟨b, 2, none⟩ y2).setCell ⟨b, 3, none⟩ y3).cell? ⟨b, 1, none⟩ = some y1 ∧ ((((W.setCell ⟨b, 0, none⟩ y0).setCell ⟨b, 1, none⟩ y1).setCell ⟨b, 2, none⟩ y2).setCell ⟨b, 3, none⟩ y3).cell? ⟨b, 2, none⟩ = some y2 ∧ ((((W.setCell ⟨b, 0, none⟩ y0).setCell ⟨b, 1, none⟩ y1).setCell ⟨b, 2, none⟩ y2).setCell ⟨b, 3, none⟩ y3).cell? ⟨b, 3, none⟩ = some y3 ∧
      Below w.heap.size w ((((W.setCell ⟨b, 0, none⟩ y0).setCell ⟨b, 1, none⟩ y1).setCell ⟨b, 2, none⟩ y2).setCell ⟨b, 3, none⟩ y3) ∧ TmV S ((((W.setCell ⟨b, 0, none⟩ y0).setCell ⟨b, 1, none⟩ y1).setCell ⟨b, 2, none⟩ y2).setCell ⟨b, 3, none⟩ y3) n (.agg #[y0, y1, y2, y3]) := by
  have hbox := set4_box hres y0 y1 y2 y3
  refine ⟨(Lib.cell_of_heap (w := set4 W b 0 y0 y1 y2 y3) hbox _).trans rfl, (Lib.cell_of_heap (w := set4 W b 0 y0 y1 y2 y3) hbox _).trans rfl, (Lib.cell_of_heap (w := set4 W b 0 y0 y1 y2 y3) hbox _).trans rfl, (Lib.cell_of_heap (w := set4 W b 0 y0 y1 y2 y3) hbox _).trans rfl, hB.trans (set4_below W _ b 0 y0 y1 y2 y3 hb), y0, y1, y2, y3, rfl, ?_⟩
  have hst : Stays S W (set4 W b 0 y0 y1 y2 y3) := ⟨by rw [set4_size]; exact Nat.le_refl _, fun p hp _ => cell_same (set4_other _ _ _ _ _ _ _ _ (hS _ hp))⟩
  exact TmC.stays hst _ _ _ _ _ h
set_option maxRecDepth 100000 in
set_option maxHeartbeats 16000000 in
theorem rpow_all (t x : Tm) (B C : Nat → Prop) (v u : Value) (w : World) (hv : TmV B w t v) (hu : TmV C w x u) (hsz : szT t + szT x ≤ 100000) : Calls Try.prog 24 #[v, u] w (RPowPost w (powF t x)) := by
  obtain ⟨R, hR⟩ : ∃ y, powF t x = y := ⟨_, rfl⟩
  rw [hR]
  have HR := Lib.hid hR
  clear hR
  obtain ⟨o, m, d, ks⟩ := t
  obtain ⟨o', m', d', ls⟩ := x
  obtain ⟨c0, c1, c2, c3, rfl, hc⟩ := hv
  obtain ⟨e0, e1, e2, e3, rfl, he⟩ := hu
  obtain ⟨oo, mm, A, la, ca, K, lk, ck, rfl, rfl, rfl, rfl⟩ := hc.shape
  obtain ⟨oo', mm', A', la', ca', K', lk', ck', rfl, rfl, rfl, rfl⟩ := he.shape
  have hoo : oo = o := by unfold TmC at hc; have := hc.1; cases this; rfl
  subst hoo
  obtain ⟨W0, hW0⟩ : ∃ y, ((w.alloc (.cells #[.int .i64 oo, .int .i64 mm, .slice A la ca, .slice K lk ck] 26)).alloc (.cells #[.int .i64 oo', .int .i64 mm', .slice A' la' ca', .slice K' lk' ck'] 26)).alloc (.cells #[.int .i64 0, .int .i64 0, .slice none 0 0, .slice none 0 0] 26) = y := ⟨_, rfl⟩
  have hbx := boxes_new w (.int .i64 oo) (.int .i64 mm) (.slice A la ca) (.slice K lk ck) (.int .i64 oo') (.int .i64 mm') (.slice A' la' ca') (.slice K' lk' ck')
  rw [hW0] at hbx
  obtain ⟨RT, hRT⟩ : ∃ y, rightF (.mk oo m d ks) 0 = y := ⟨_, rfl⟩
  obtain ⟨RX, hRX⟩ : ∃ y, rightF (.mk o' m' d' ls) 0 = y := ⟨_, rfl⟩
  have h1 := rright_any _ B (.agg #[.int .i64 oo, .int .i64 mm, .slice A la ca, .slice K lk ck]) W0 ⟨_, _, _, _, rfl, TmC.below hbx.1 _ _ _ _ _ hc⟩
  have h2 := fun W (hW : Below w.heap.size w W) => rright_any _ C (.agg #[.int .i64 oo', .int .i64 mm', .slice A' la' ca', .slice K' lk' ck']) W ⟨_, _, _, _, rfl, TmC.below hW _ _ _ _ _ he⟩
  rw [hRT] at h1
  rw [hRX] at h2
  obtain ⟨hll, hlc, hcm, _⟩ := term_kids hc
  have hcb := TmC.bound _ _ _ _ _ hc
  have heb := TmC.bound _ _ _ _ _ he
  have H1 := Lib.hid h1
  have H2 := Lib.hid h2
  have HBX := Lib.hid hbx
  have HRT := Lib.hid hRT
  have HRX := Lib.hid hRX
  have HC := Lib.hid hcb
  have HE0 := Lib.hid heb
  have HLL := Lib.hid hll
  have HSZ := Lib.hid hsz
  obtain ⟨a0, a1, a2, a3⟩ := hbx.one
  obtain ⟨b0, b1, b2, b3⟩ := hbx.two
  obtain ⟨z0, z1, z2, z3, f0, f1, f2, f3⟩ := hbx.res
  clear h1 h2 hbx hc he hRT hRX hcb heb hll hsz z0 z1 z2 z3 f0 f1 f2 f3
  have hck9 : ck ≤ 9223372036854775807 := by unfold maxLen at hcm; omega
  go_enter Try.func24, Try.ntmps24
  unfold RPowPost
  go_wp2_with fail
  clear hW0
  refine H1.out.mono ?_
  rintro e w1 ⟨rfl, hb1⟩
  have hbx1 := HBX.out.below hb1
  clear a0 a1 a2 a3 b0 b1 b2 b3 H1 HBX hb1
  obtain ⟨a0, a1, a2, a3⟩ := hbx1.one
  obtain ⟨b0, b1, b2, b3⟩ := hbx1.two
  obtain ⟨z0, z1, z2, z3, f0, f1, f2, f3⟩ := hbx1.res
  have h3 := H2.out w1 hbx1.1
  have H3 := Lib.hid h3
  have HBX1 := Lib.hid hbx1
  clear h3 hbx1 H2
  go_wp2_with fail
  refine H3.out.mono ?_
  rintro e w2 ⟨rfl, hb2⟩
  have hbx2 := HBX1.out.below hb2
  clear a0 a1 a2 a3 b0 b1 b2 b3 z0 z1 z2 z3 f0 f1 f2 f3 H3 HBX1 hb2
  obtain ⟨a0, a1, a2, a3⟩ := hbx2.one
  obtain ⟨b0, b1, b2, b3⟩ := hbx2.two
  obtain ⟨z0, z1, z2, z3, f0, f1, f2, f3⟩ := hbx2.res
  cases RT with
  | false =>
    have eR : none = R := by rw [← HR.out]; unfold powF; rw [if_neg (fun h => by rw [HRT.out] at h; exact Bool.false_ne_true h.1)]
    subst eR
    obtain ⟨r0, r1, r2, r3, hB, hT⟩ := res_end2 (w := w) (b := w.heap.size + 1 + 1) (S := fun g => g ≠ w.heap.size + 1 + 1) (by omega) hbx2.1 hbx2.2.2.2.1 (fun g hg => hg) (nil_tm _ _)
    have HE := Lib.hid (And.intro hB hT)
    clear hB hT
    clear hbx2
    go_wp2_with fail
    refine bodyPost_ret (v := .tuple #[.agg #[.int .i64 0, .int .i64 0, .slice none 0 0, .slice none 0 0], .bool false]) ?_ rfl ⟨_, rfl, TmV.mono HE.out.2 (fun _ _ => trivial), HE.out.1⟩
    simp [results, Try.results24, go_sem, r0, r1, r2, r3]
  | true =>
    cases RX with
    | false =>
      have eR : none = R := by rw [← HR.out]; unfold powF; rw [if_neg (fun h => by rw [HRX.out] at h; exact Bool.false_ne_true h.2.1)]
      subst eR
      obtain ⟨r0, r1, r2, r3, hB, hT⟩ := res_end2 (w := w) (b := w.heap.size + 1 + 1) (S := fun g => g ≠ w.heap.size + 1 + 1) (by omega) hbx2.1 hbx2.2.2.2.1 (fun g hg => hg) (nil_tm _ _)
      have HE := Lib.hid (And.intro hB hT)
      clear hB hT
      clear hbx2
      go_wp2_with fail
      refine bodyPost_ret (v := .tuple #[.agg #[.int .i64 0, .int .i64 0, .slice none 0 0, .slice none 0 0], .bool false]) ?_ rfl ⟨_, rfl, TmV.mono HE.out.2 (fun _ _ => trivial), HE.out.1⟩
      simp [results, Try.results24, go_sem, r0, r1, r2, r3]
    | true =>
      by_cases h7 : oo = 7
      · subst h7
        have hl4 : lk ≤ 4 := by rw [← HLL.out]; exact right_len HRT.out
        have HBX2 := Lib.hid hbx2
        have hcw := TmC.below hbx2.1 _ _ _ _ _ HC.out
        have hew := TmC.below hbx2.1 _ _ _ _ _ HE0.out
        have hput := rput_any ks (.mk o' m' d' ls) K lk ck _ _ (.agg #[.int .i64 oo', .int .i64 mm', .slice A' la' ca', .slice K' lk' ck']) w2 HLL.out (tmsb_of hcw HLL.out) hlc hcm (by omega) ⟨_, _, _, _, rfl, hew⟩ (fun g => g < w.heap.size) (fun g h => h.2) (fun g h => h.2)
        have HPUT := Lib.hid hput
        have hge := hbx2.2.2.2.2
        clear hput hcw hew hbx2 z0 z1 z2 z3 f0 f1 f2 f3
        go_wp2_with fail
        refine HPUT.out.mono ?_
        rintro e w3 ⟨Ak, ck3, cs3, rfl, hown, hq3, hb3⟩
        have hbx3 := HBX2.out.below hb3
        obtain ⟨A4, c4, e4, hterm⟩ := own_term (W := w3) (o := 7) (m := 0) (by unfold I64; omega) (by unfold I64; omega) hown hq3 rfl (fun g => g ≠ w.heap.size + 1 + 1) (fun g hg => by have hg : g < w.heap.size := hg; omega) (fun g h1 _ => by omega)
        cases e4
        have hpl : (putF ks (.mk o' m' d' ls)).length = lk + 1 := by rw [putF_len, HLL.out]
        rw [hpl] at hterm ⊢
        obtain ⟨w4, hw4⟩ : ∃ y, w3.alloc (.cells #[.int .i64 7, .int .i64 0, .slice none 0 0, .slice Ak (lk + 1) ck3] 26) = y := ⟨_, rfl⟩
        have hb4 : Below w3.heap.size w3 w4 := by rw [← hw4]; exact below_new _ _
        have hn4 : w4.heap[w3.heap.size]? = some (.cells #[.int .i64 7, .int .i64 0, .slice none 0 0, .slice Ak (lk + 1) ck3] 26) := by rw [← hw4]; exact heap_new_ _ _
        have hz4 : w3.heap.size < w4.heap.size := by rw [← hw4]; simp
        have hbx4 := hbx3.below hb4
        have hk4 := TmC.below hb4 _ _ _ _ _ hterm
        have hr4 := rright_any (pow0 (.mk 7 m d ks) (.mk o' m' d' ls)) _ (.agg #[.int .i64 7, .int .i64 0, .slice none 0 0, .slice Ak (lk + 1) ck3]) w4 ⟨_, _, _, _, rfl, hk4⟩
        have p0 : w4.cell? ⟨w3.heap.size, 0, none⟩ = some (.int .i64 7) := by rw [Lib.cell_of_heap hn4]; rfl
        have p1 : w4.cell? ⟨w3.heap.size, 1, none⟩ = some (.int .i64 0) := by rw [Lib.cell_of_heap hn4]; rfl
        have p2 : w4.cell? ⟨w3.heap.size, 2, none⟩ = some (.slice none 0 0) := by rw [Lib.cell_of_heap hn4]; rfl
        have p3 : w4.cell? ⟨w3.heap.size, 3, none⟩ = some (.slice Ak (lk + 1) ck3) := by rw [Lib.cell_of_heap hn4]; rfl
        obtain ⟨q, hq⟩ : ∃ y, rightF (pow0 (.mk 7 m d ks) (.mk o' m' d' ls)) 0 = y := ⟨_, rfl⟩
        rw [hq] at hr4
        have HR4 := Lib.hid hr4
        have HBX4 := Lib.hid hbx4
        have HK4 := Lib.hid hk4
        have HN4 := Lib.hid hn4
        have HZ4 := Lib.hid hz4
        have HQ := Lib.hid hq
        have HPL := Lib.hid hpl
        clear hr4 hbx4 hk4 hn4 hz4 hq hpl hterm hown hq3 hb3 hbx3 hb4 HPUT a0 a1 a2 a3 b0 b1 b2 b3 hge HC HE0 HBX2
        go_wp2_with fail
        clear hw4
        refine HR4.out.mono ?_
        rintro e w8 ⟨rfl, hb8⟩
        have hbx8 := HBX4.out.below hb8
        have hn8 := (hb8.block _ HZ4.out).trans HN4.out
        have hy8 := TmC.below hb8 _ _ _ _ _ HK4.out
        obtain ⟨z0, z1, z2, z3, f0, f1, f2, f3⟩ := hbx8.res
        have hpow : powF (.mk 7 m d ks) (.mk o' m' d' ls) = if rightF (pow0 (.mk 7 m d ks) (.mk o' m' d' ls)) 0 = true then some (pow0 (.mk 7 m d ks) (.mk o' m' d' ls)) else none := by unfold powF; rw [if_pos ⟨HRT.out, HRX.out, rfl⟩]
        cases q with
        | true =>
          have eR : some (pow0 (.mk 7 m d ks) (.mk o' m' d' ls)) = R := by rw [← HR.out, hpow]; exact (if_pos HQ.out).symm
          subst eR
          obtain ⟨r0, r1, r2, r3, hB, hT⟩ := res_end2 (w := w) (b := w.heap.size + 1 + 1) (S := fun g => g ≠ w.heap.size + 1 + 1) (by omega) hbx8.1 hbx8.2.2.2.1 (fun g hg => hg) hy8
          have HE := Lib.hid (And.intro hB hT)
          have p0 : w8.cell? ⟨w3.heap.size, 0, none⟩ = some (.int .i64 7) := by rw [Lib.cell_of_heap hn8]; rfl
          have p1 : w8.cell? ⟨w3.heap.size, 1, none⟩ = some (.int .i64 0) := by rw [Lib.cell_of_heap hn8]; rfl
          have p2 : w8.cell? ⟨w3.heap.size, 2, none⟩ = some (.slice none 0 0) := by rw [Lib.cell_of_heap hn8]; rfl
          have p3 : w8.cell? ⟨w3.heap.size, 3, none⟩ = some (.slice Ak (lk + 1) ck3) := by rw [Lib.cell_of_heap hn8]; rfl
          clear hB hT hbx8 hn8 hy8 hb8 HR4 HBX4 HN4 HK4 HQ HR hpow
          go_wp2_with fail
          refine bodyPost_ret (v := .tuple #[.agg #[.int .i64 7, .int .i64 0, .slice none 0 0, .slice Ak (lk + 1) ck3], .bool true]) ?_ rfl ⟨_, rfl, TmV.mono HE.out.2 (fun _ _ => trivial), HE.out.1⟩
          simp [results, Try.results24, go_sem, r0, r1, r2, r3]
        | false =>
          have eR : none = R := by rw [← HR.out, hpow]; exact (if_neg (by rw [HQ.out]; simp)).symm
          subst eR
          obtain ⟨r0, r1, r2, r3, hB, hT⟩ := res_end2 (w := w) (b := w.heap.size + 1 + 1) (S := fun g => g ≠ w.heap.size + 1 + 1) (by omega) hbx8.1 hbx8.2.2.2.1 (fun g hg => hg) (nil_tm _ _)
          have HE := Lib.hid (And.intro hB hT)
          clear hB hT hbx8 hn8 hy8 hb8 HR4 HBX4 HN4 HK4 HQ HR hpow
          go_wp2_with fail
          refine bodyPost_ret (v := .tuple #[.agg #[.int .i64 0, .int .i64 0, .slice none 0 0, .slice none 0 0], .bool false]) ?_ rfl ⟨_, rfl, TmV.mono HE.out.2 (fun _ _ => trivial), HE.out.1⟩
          simp [results, Try.results24, go_sem, r0, r1, r2, r3]
      · have hb7 : (oo == 7) = false := by simpa using h7
        have hn7 : (oo != 7) = true := by simpa using h7
        have eR : none = R := by rw [← HR.out]; unfold powF; rw [if_neg (fun h => h7 h.2.2)]
        subst eR
        obtain ⟨r0, r1, r2, r3, hB, hT⟩ := res_end2 (w := w) (b := w.heap.size + 1 + 1) (S := fun g => g ≠ w.heap.size + 1 + 1) (by omega) hbx2.1 hbx2.2.2.2.1 (fun g hg => hg) (nil_tm _ _)
        have HE := Lib.hid (And.intro hB hT)
        clear hB hT
        clear hbx2
        go_wp2_with fail
        refine bodyPost_ret (v := .tuple #[.agg #[.int .i64 0, .int .i64 0, .slice none 0 0, .slice none 0 0], .bool false]) ?_ rfl ⟨_, rfl, TmV.mono HE.out.2 (fun _ _ => trivial), HE.out.1⟩
        simp [results, Try.results24, go_sem, r0, r1, r2, r3]
end Go.Proofs.Ytoaacacbjimloaa.tmc
