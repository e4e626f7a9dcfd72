/- The document's Pow, with what its answer leads to. -/
import Derived.Test.YtfmdmahlljbbmaaGreatDoorTi
namespace Go.Proofs.YtfmdmahlljbbmaaGreatDoor.tmc
open Go.RowKit Go.Proofs.YtfmdmahlljbbmaaGreatDoor.tlvc
set_option linter.unusedVariables false
/-- A power's power of the document's, in blocks of both terms or new ones. -/
def RPowIn (B C : Nat → Prop) (w : World) (r : Option Tm) (e : Ending) (w' : World) : Prop := ∃ v', e = .returned (.tuple #[v', .bool r.isSome]) ∧ TmV (fun g => B g ∨ C g ∨ w.heap.size ≤ g) w' (r.getD (.mk 0 0 [] [])) v' ∧ Below w.heap.size w w'
set_option maxRecDepth 100000 in
set_option maxHeartbeats 16000000 in
theorem rpow_in (t x : Tm) (B C : Nat → Prop) (v u : Value) (w : World) (hv : TmV B w t v) (hu : TmV C w x u) (hsz : szT t + szT x ≤ 100000) : Calls Tryz.prog 38 #[v, u] w (RPowIn B C w (powF t x)) := by
  obtain ⟨R, hR⟩ : ∃ y, powF t x = y := ⟨_, rfl⟩
  rw [hR]
  have HR := Lib.hid hR
  clear hR
  obtain ⟨o, m, d, ks⟩ := t
  obtain ⟨o', m', d', ls⟩ := x
  obtain ⟨c0, c1, c2, c3, rfl, hc⟩ := hv
  obtain ⟨e0, e1, e2, e3, rfl, he⟩ := hu
  obtain ⟨oo, mm, A, la, ca, K, lk, ck, rfl, rfl, rfl, rfl⟩ := hc.shape
  obtain ⟨oo', mm', A', la', ca', K', lk', ck', rfl, rfl, rfl, rfl⟩ := he.shape
  have hoo : oo = o := by unfold TmC at hc; have := hc.1; cases this; rfl
  subst hoo
  obtain ⟨W0, hW0⟩ : ∃ y, ((w.alloc (.cells #[.int .i64 oo, .int .i64 mm, .slice A la ca, .slice K lk ck] 57)).alloc (.cells #[.int .i64 oo', .int .i64 mm', .slice A' la' ca', .slice K' lk' ck'] 57)).alloc (.cells #[.int .i64 0, .int .i64 0, .slice none 0 0, .slice none 0 0] 57) = y := ⟨_, rfl⟩
  have hbx := boxes_new w (.int .i64 oo) (.int .i64 mm) (.slice A la ca) (.slice K lk ck) (.int .i64 oo') (.int .i64 mm') (.slice A' la' ca') (.slice K' lk' ck')
  rw [hW0] at hbx
  obtain ⟨RT, hRT⟩ : ∃ y, rightF (.mk oo m d ks) 0 = y := ⟨_, rfl⟩
  obtain ⟨RX, hRX⟩ : ∃ y, rightF (.mk o' m' d' ls) 0 = y := ⟨_, rfl⟩
  have h1 := rright_any _ B (.agg #[.int .i64 oo, .int .i64 mm, .slice A la ca, .slice K lk ck]) W0 ⟨_, _, _, _, rfl, TmC.below hbx.1 _ _ _ _ _ hc⟩
  have h2 := fun W (hW : Below w.heap.size w W) => rright_any _ C (.agg #[.int .i64 oo', .int .i64 mm', .slice A' la' ca', .slice K' lk' ck']) W ⟨_, _, _, _, rfl, TmC.below hW _ _ _ _ _ he⟩
  rw [hRT] at h1
  rw [hRX] at h2
  obtain ⟨hll, hlc, hcm, _⟩ := term_kids hc
  have hcb := TmC.bound _ _ _ _ _ hc
  have heb := TmC.bound _ _ _ _ _ he
  have H1 := Lib.hid h1
  have H2 := Lib.hid h2
  have HBX := Lib.hid hbx
  have HRT := Lib.hid hRT
  have HRX := Lib.hid hRX
  have HC := Lib.hid hcb
  have HE0 := Lib.hid heb
  have HLL := Lib.hid hll
  have HSZ := Lib.hid hsz
  obtain ⟨a0, a1, a2, a3⟩ := hbx.one
  obtain ⟨b0, b1, b2, b3⟩ := hbx.two
  obtain ⟨z0, z1, z2, z3, f0, f1, f2, f3⟩ := hbx.res
  clear h1 h2 hbx hc he hRT hRX hcb heb hll hsz z0 z1 z2 z3 f0 f1 f2 f3
  have hck9 : ck ≤ 9223372036854775807 := by unfold maxLen at hcm; omega
  go_enter Tryz.func38, Tryz.ntmps38
  unfold RPowIn
  go_wp2_with fail
  clear hW0
  refine H1.out.mono ?_
  rintro e w1 ⟨rfl, hb1⟩
  have hbx1 := HBX.out.below hb1
  clear a0 a1 a2 a3 b0 b1 b2 b3 H1 HBX hb1
  obtain ⟨a0, a1, a2, a3⟩ := hbx1.one
  obtain ⟨b0, b1, b2, b3⟩ := hbx1.two
  obtain ⟨z0, z1, z2, z3, f0, f1, f2, f3⟩ := hbx1.res
  have h3 := H2.out w1 hbx1.1
  have H3 := Lib.hid h3
  have HBX1 := Lib.hid hbx1
  clear h3 hbx1 H2
  go_wp2_with fail
  refine H3.out.mono ?_
  rintro e w2 ⟨rfl, hb2⟩
  have hbx2 := HBX1.out.below hb2
  clear a0 a1 a2 a3 b0 b1 b2 b3 z0 z1 z2 z3 f0 f1 f2 f3 H3 HBX1 hb2
  obtain ⟨a0, a1, a2, a3⟩ := hbx2.one
  obtain ⟨b0, b1, b2, b3⟩ := hbx2.two
  obtain ⟨z0, z1, z2, z3, f0, f1, f2, f3⟩ := hbx2.res
  cases RT with
  | false =>
    have eR : none = R := by rw [← HR.out]; unfold powF; rw [if_neg (fun h => by rw [HRT.out] at h; exact Bool.false_ne_true h.1)]
    subst eR
    obtain ⟨r0, r1, r2, r3, hB, hT⟩ := res_end2 (w := w) (b := w.heap.size + 1 + 1) (S := fun g => (((B g ∨ C g) ∧ g < w.heap.size) ∨ w.heap.size ≤ g) ∧ g ≠ w.heap.size + 1 + 1) (by omega) hbx2.1 hbx2.2.2.2.1 (fun g hg => hg.2) (nil_tm _ _)
    have HE := Lib.hid (And.intro hB hT)
    clear hB hT
    clear hbx2
    go_wp2_with fail
    refine bodyPost_ret (v := .tuple #[.agg #[.int .i64 0, .int .i64 0, .slice none 0 0, .slice none 0 0], .bool false]) ?_ rfl ⟨_, rfl, TmV.mono HE.out.2 (fun g hg => hg.1.elim (fun h => h.1.elim .inl (fun h => .inr (.inl h))) (fun h => .inr (.inr h))), HE.out.1⟩
    simp [results, Tryz.results38, go_sem, r0, r1, r2, r3]
  | true =>
    cases RX with
    | false =>
      have eR : none = R := by rw [← HR.out]; unfold powF; rw [if_neg (fun h => by rw [HRX.out] at h; exact Bool.false_ne_true h.2.1)]
      subst eR
      obtain ⟨r0, r1, r2, r3, hB, hT⟩ := res_end2 (w := w) (b := w.heap.size + 1 + 1) (S := fun g => (((B g ∨ C g) ∧ g < w.heap.size) ∨ w.heap.size ≤ g) ∧ g ≠ w.heap.size + 1 + 1) (by omega) hbx2.1 hbx2.2.2.2.1 (fun g hg => hg.2) (nil_tm _ _)
      have HE := Lib.hid (And.intro hB hT)
      clear hB hT
      clear hbx2
      go_wp2_with fail
      refine bodyPost_ret (v := .tuple #[.agg #[.int .i64 0, .int .i64 0, .slice none 0 0, .slice none 0 0], .bool false]) ?_ rfl ⟨_, rfl, TmV.mono HE.out.2 (fun g hg => hg.1.elim (fun h => h.1.elim .inl (fun h => .inr (.inl h))) (fun h => .inr (.inr h))), HE.out.1⟩
      simp [results, Tryz.results38, go_sem, r0, r1, r2, r3]
    | true =>
      by_cases h7 : oo = 7
      · subst h7
        have hl4 : lk ≤ 4 := by rw [← HLL.out]; exact right_len HRT.out
        have HBX2 := Lib.hid hbx2
        have hcw := TmC.below hbx2.1 _ _ _ _ _ HC.out
        have hew := TmC.below hbx2.1 _ _ _ _ _ HE0.out
        have hput := rput_any ks (.mk o' m' d' ls) K lk ck _ _ (.agg #[.int .i64 oo', .int .i64 mm', .slice A' la' ca', .slice K' lk' ck']) w2 HLL.out (tmsb_of hcw HLL.out) hlc hcm (by omega) ⟨_, _, _, _, rfl, hew⟩ (fun g => (B g ∨ C g) ∧ g < w.heap.size) (fun g h => ⟨.inl h.1, h.2⟩) (fun g h => ⟨.inr h.1, h.2⟩)
        have HPUT := Lib.hid hput
        have hge := hbx2.2.2.2.2
        clear hput hcw hew hbx2 z0 z1 z2 z3 f0 f1 f2 f3
        go_wp2_with fail
        refine HPUT.out.mono ?_
        rintro e w3 ⟨Ak, ck3, cs3, rfl, hown, hq3, hb3⟩
        have hbx3 := HBX2.out.below hb3
        obtain ⟨A4, c4, e4, hterm⟩ := own_term (W := w3) (o := 7) (m := 0) (by unfold I64; omega) (by unfold I64; omega) hown hq3 rfl (fun g => (((B g ∨ C g) ∧ g < w.heap.size) ∨ w.heap.size ≤ g) ∧ g ≠ w.heap.size + 1 + 1) (fun g hg => ⟨.inl hg, by have := hg.2; omega⟩) (fun g h1 _ => ⟨.inr (by omega), by omega⟩)
        cases e4
        have hpl : (putF ks (.mk o' m' d' ls)).length = lk + 1 := by rw [putF_len, HLL.out]
        rw [hpl] at hterm ⊢
        obtain ⟨w4, hw4⟩ : ∃ y, w3.alloc (.cells #[.int .i64 7, .int .i64 0, .slice none 0 0, .slice Ak (lk + 1) ck3] 57) = y := ⟨_, rfl⟩
        have hb4 : Below w3.heap.size w3 w4 := by rw [← hw4]; exact below_new _ _
        have hn4 : w4.heap[w3.heap.size]? = some (.cells #[.int .i64 7, .int .i64 0, .slice none 0 0, .slice Ak (lk + 1) ck3] 57) := by rw [← hw4]; exact heap_new_ _ _
        have hz4 : w3.heap.size < w4.heap.size := by rw [← hw4]; simp
        have hbx4 := hbx3.below hb4
        have hk4 := TmC.below hb4 _ _ _ _ _ hterm
        have hr4 := rright_any (pow0 (.mk 7 m d ks) (.mk o' m' d' ls)) _ (.agg #[.int .i64 7, .int .i64 0, .slice none 0 0, .slice Ak (lk + 1) ck3]) w4 ⟨_, _, _, _, rfl, hk4⟩
        have p0 : w4.cell? ⟨w3.heap.size, 0, none⟩ = some (.int .i64 7) := by rw [Lib.cell_of_heap hn4]; rfl
        have p1 : w4.cell? ⟨w3.heap.size, 1, none⟩ = some (.int .i64 0) := by rw [Lib.cell_of_heap hn4]; rfl
        have p2 : w4.cell? ⟨w3.heap.size, 2, none⟩ = some (.slice none 0 0) := by rw [Lib.cell_of_heap hn4]; rfl
        have p3 : w4.cell? ⟨w3.heap.size, 3, none⟩ = some (.slice Ak (lk + 1) ck3) := by rw [Lib.cell_of_heap hn4]; rfl
        obtain ⟨q, hq⟩ : ∃ y, rightF (pow0 (.mk 7 m d ks) (.mk o' m' d' ls)) 0 = y := ⟨_, rfl⟩
        rw [hq] at hr4
        have HR4 := Lib.hid hr4
        have HBX4 := Lib.hid hbx4
        have HK4 := Lib.hid hk4
        have HN4 := Lib.hid hn4
        have HZ4 := Lib.hid hz4
        have HQ := Lib.hid hq
        have HPL := Lib.hid hpl
        clear hr4 hbx4 hk4 hn4 hz4 hq hpl hterm hown hq3 hb3 hbx3 hb4 HPUT a0 a1 a2 a3 b0 b1 b2 b3 hge HC HE0 HBX2
        go_wp2_with fail
        clear hw4
        refine HR4.out.mono ?_
        rintro e w8 ⟨rfl, hb8⟩
        have hbx8 := HBX4.out.below hb8
        have hn8 := (hb8.block _ HZ4.out).trans HN4.out
        have hy8 := TmC.below hb8 _ _ _ _ _ HK4.out
        obtain ⟨z0, z1, z2, z3, f0, f1, f2, f3⟩ := hbx8.res
        have hpow : powF (.mk 7 m d ks) (.mk o' m' d' ls) = if rightF (pow0 (.mk 7 m d ks) (.mk o' m' d' ls)) 0 = true then some (pow0 (.mk 7 m d ks) (.mk o' m' d' ls)) else none := by unfold powF; rw [if_pos ⟨HRT.out, HRX.out, rfl⟩]
        cases q with
        | true =>
          have eR : some (pow0 (.mk 7 m d ks) (.mk o' m' d' ls)) = R := by rw [← HR.out, hpow]; exact (if_pos HQ.out).symm
          subst eR
          obtain ⟨r0, r1, r2, r3, hB, hT⟩ := res_end2 (w := w) (b := w.heap.size + 1 + 1) (S := fun g => (((B g ∨ C g) ∧ g < w.heap.size) ∨ w.heap.size ≤ g) ∧ g ≠ w.heap.size + 1 + 1) (by omega) hbx8.1 hbx8.2.2.2.1 (fun g hg => hg.2) hy8
          have HE := Lib.hid (And.intro hB hT)
          have p0 : w8.cell? ⟨w3.heap.size, 0, none⟩ = some (.int .i64 7) := by rw [Lib.cell_of_heap hn8]; rfl
          have p1 : w8.cell? ⟨w3.heap.size, 1, none⟩ = some (.int .i64 0) := by rw [Lib.cell_of_heap hn8]; rfl
          have p2 : w8.cell? ⟨w3.heap.size, 2, none⟩ = some (.slice none 0 0) := by rw [Lib.cell_of_heap hn8]; rfl
          have p3 : w8.cell? ⟨w3.heap.size, 3, none⟩ = some (.slice Ak (lk + 1) ck3) := by rw [Lib.cell_of_heap hn8]; rfl
          clear hB hT hbx8 hn8 hy8 hb8 HR4 HBX4 HN4 HK4 HQ HR hpow
          go_wp2_with fail
          refine bodyPost_ret (v := .tuple #[.agg #[.int .i64 7, .int .i64 0, .slice none 0 0, .slice Ak (lk + 1) ck3], .bool true]) ?_ rfl ⟨_, rfl, TmV.mono HE.out.2 (fun g hg => hg.1.elim (fun h => h.1.elim .inl (fun h => .inr (.inl h))) (fun h => .inr (.inr h))), HE.out.1⟩
          simp [results, Tryz.results38, go_sem, r0, r1, r2, r3]
        | false =>
          have eR : none = R := by rw [← HR.out, hpow]; exact (if_neg (by rw [HQ.out]; simp)).symm
          subst eR
          obtain ⟨r0, r1, r2, r3, hB, hT⟩ := res_end2 (w := w) (b := w.heap.size + 1 + 1) (S := fun g => (((B g ∨ C g) ∧ g < w.heap.size) ∨ w.heap.size ≤ g) ∧ g ≠ w.heap.size + 1 + 1) (by omega) hbx8.1 hbx8.2.2.2.1 (fun g hg => hg.2) (nil_tm _ _)
          have HE := Lib.hid (And.intro hB hT)
          clear hB hT hbx8 hn8 hy8 hb8 HR4 HBX4 HN4 HK4 HQ HR hpow
          go_wp2_with fail
          refine bodyPost_ret (v := .tuple #[.agg #[.int .i64 0, .int .i64 0, .slice none 0 0, .slice none 0 0], .bool false]) ?_ rfl ⟨_, rfl, TmV.mono HE.out.2 (fun g hg => hg.1.elim (fun h => h.1.elim .inl (fun h => .inr (.inl h))) (fun h => .inr (.inr h))), HE.out.1⟩
          simp [results, Tryz.results38, go_sem, r0, r1, r2, r3]
      · have hb7 : (oo == 7) = false := by simpa using h7
        have hn7 : (oo != 7) = true := by simpa using h7
        have eR : none = R := by rw [← HR.out]; unfold powF; rw [if_neg (fun h => h7 h.2.2)]
        subst eR
        obtain ⟨r0, r1, r2, r3, hB, hT⟩ := res_end2 (w := w) (b := w.heap.size + 1 + 1) (S := fun g => (((B g ∨ C g) ∧ g < w.heap.size) ∨ w.heap.size ≤ g) ∧ g ≠ w.heap.size + 1 + 1) (by omega) hbx2.1 hbx2.2.2.2.1 (fun g hg => hg.2) (nil_tm _ _)
        have HE := Lib.hid (And.intro hB hT)
        clear hB hT
        clear hbx2
        go_wp2_with fail
        refine bodyPost_ret (v := .tuple #[.agg #[.int .i64 0, .int .i64 0, .slice none 0 0, .slice none 0 0], .bool false]) ?_ rfl ⟨_, rfl, TmV.mono HE.out.2 (fun g hg => hg.1.elim (fun h => h.1.elim .inl (fun h => .inr (.inl h))) (fun h => .inr (.inr h))), HE.out.1⟩
        simp [results, Tryz.results38, go_sem, r0, r1, r2, r3]
end Go.Proofs.YtfmdmahlljbbmaaGreatDoor.tmc
