/- terms.Pow: a power's power. -/
import Derived.Test.YtoaacacbjimloaaTmPa
import Derived.Test.YtoaacacbjimloaaTmNc
import Derived.Test.YtoaacacbjimloaaTmY
import Derived.RegionTactic
import Derived.Deep.QuietTactic
import Derived.Deep.RegionLaw
import Derived.BigQuiet
namespace Go.Proofs.Ytoaacacbjimloaa.tmc
open Go.RowKit Go.Proofs.Ytoaacacbjimloaa.tlvc
set_option linter.unusedVariables false
set_option maxRecDepth 100000 in
set_option maxHeartbeats 4000000 in
theorem pow_no1 (t x : Tm) (B C : Nat → Prop) (v u : Value) (w : World) (hv : TmV B w t v) (hu : TmV C w x u) (h7 : t.op ≠ 7) : Calls Try.prog 23 #[v, u] w (PowPost w none) := by
  obtain ⟨o, m, d, ks⟩ := t
  obtain ⟨o', m', d', ls⟩ := x
  obtain ⟨c0, c1, c2, c3, rfl, hc⟩ := hv
  obtain ⟨e0, e1, e2, e3, rfl, he⟩ := hu
  obtain ⟨oo, mm, A, la, ca, K, lk, ck, rfl, rfl, rfl, rfl⟩ := hc.shape
  obtain ⟨oo', mm', A', la', ca', K', lk', ck', rfl, rfl, rfl, rfl⟩ := he.shape
  have hoo : oo = o := by unfold TmC at hc; have := hc.1; cases this; rfl
  subst hoo
  have hb7 : (oo == 7) = false := by simpa [Tm.op] using h7
  have hn7 : (oo != 7) = true := by simpa [Tm.op] using h7
  obtain ⟨W0, hW0⟩ : ∃ y, ((w.alloc (.cells #[.int .i64 oo, .int .i64 mm, .slice A la ca, .slice K lk ck] 26)).alloc (.cells #[.int .i64 oo', .int .i64 mm', .slice A' la' ca', .slice K' lk' ck'] 26)).alloc (.cells #[.int .i64 0, .int .i64 0, .slice none 0 0, .slice none 0 0] 26) = y := ⟨_, rfl⟩
  have hbx := boxes_new w (.int .i64 oo) (.int .i64 mm) (.slice A la ca) (.slice K lk ck) (.int .i64 oo') (.int .i64 mm') (.slice A' la' ca') (.slice K' lk' ck')
  rw [hW0] at hbx
  obtain ⟨a0, a1, a2, a3⟩ := hbx.one
  obtain ⟨b0, b1, b2, b3⟩ := hbx.two
  obtain ⟨z0, z1, z2, z3, f0, f1, f2, f3⟩ := hbx.res
  obtain ⟨r0, r1, r2, r3, hB, hT⟩ := res_end (w := w) (b := w.heap.size + 1 + 1) (S := fun g => w.heap.size ≤ g ∧ g ≠ w.heap.size + 1 + 1) (by omega) hbx.1 hbx.2.2.2.1 (fun g hg => hg) (nil_tm _ _)
  have HE := Lib.hid (And.intro hB hT)
  clear hB hT
  have HBX := Lib.hid hbx
  clear hbx hc he h7
  go_enter Try.func23, Try.ntmps23
  unfold PowPost
  go_wp2_with fail
  refine bodyPost_ret (v := .tuple #[.agg #[.int .i64 0, .int .i64 0, .slice none 0 0, .slice none 0 0], .bool false]) ?_ rfl ⟨_, rfl, HE.out.2, HE.out.1⟩
  simp [results, Try.results23, go_sem, r0, r1, r2, r3]
set_option maxRecDepth 100000 in
set_option maxHeartbeats 4000000 in
theorem pow_no2 (t x : Tm) (B C : Nat → Prop) (v u : Value) (w : World) (hv : TmV B w t v) (hu : TmV C w x u) (h7 : t.op = 7) (hr : rightF t 0 = false) : Calls Try.prog 23 #[v, u] w (PowPost w none) := by
  obtain ⟨o, m, d, ks⟩ := t
  obtain ⟨o', m', d', ls⟩ := x
  obtain ⟨c0, c1, c2, c3, rfl, hc⟩ := hv
  obtain ⟨e0, e1, e2, e3, rfl, he⟩ := hu
  obtain ⟨oo, mm, A, la, ca, K, lk, ck, rfl, rfl, rfl, rfl⟩ := hc.shape
  obtain ⟨oo', mm', A', la', ca', K', lk', ck', rfl, rfl, rfl, rfl⟩ := he.shape
  have hoo : oo = o := by unfold TmC at hc; have := hc.1; cases this; rfl
  subst hoo
  have h7 : oo = 7 := h7
  subst h7
  obtain ⟨W0, hW0⟩ : ∃ y, ((w.alloc (.cells #[.int .i64 7, .int .i64 mm, .slice A la ca, .slice K lk ck] 26)).alloc (.cells #[.int .i64 oo', .int .i64 mm', .slice A' la' ca', .slice K' lk' ck'] 26)).alloc (.cells #[.int .i64 0, .int .i64 0, .slice none 0 0, .slice none 0 0] 26) = y := ⟨_, rfl⟩
  have hbx := boxes_new w (.int .i64 7) (.int .i64 mm) (.slice A la ca) (.slice K lk ck) (.int .i64 oo') (.int .i64 mm') (.slice A' la' ca') (.slice K' lk' ck')
  rw [hW0] at hbx
  have h1 := right_any _ B (.agg #[.int .i64 7, .int .i64 mm, .slice A la ca, .slice K lk ck]) W0 ⟨_, _, _, _, rfl, TmC.below hbx.1 _ _ _ _ _ hc⟩
  rw [hr] at h1
  have H1 := Lib.hid h1
  have HBX := Lib.hid hbx
  obtain ⟨a0, a1, a2, a3⟩ := hbx.one
  obtain ⟨b0, b1, b2, b3⟩ := hbx.two
  obtain ⟨z0, z1, z2, z3, f0, f1, f2, f3⟩ := hbx.res
  clear h1 hbx hc he hr z0 z1 z2 z3 f0 f1 f2 f3
  go_enter Try.func23, Try.ntmps23
  unfold PowPost
  go_wp2_with fail
  clear hW0
  refine H1.out.mono ?_
  rintro e w1 ⟨rfl, hb1⟩
  have hbx1 := HBX.out.below hb1
  clear a0 a1 a2 a3 b0 b1 b2 b3 H1 HBX hb1
  obtain ⟨a0, a1, a2, a3⟩ := hbx1.one
  obtain ⟨b0, b1, b2, b3⟩ := hbx1.two
  obtain ⟨z0, z1, z2, z3, f0, f1, f2, f3⟩ := hbx1.res
  obtain ⟨r0, r1, r2, r3, hB, hT⟩ := res_end (w := w) (b := w.heap.size + 1 + 1) (S := fun g => w.heap.size ≤ g ∧ g ≠ w.heap.size + 1 + 1) (by omega) hbx1.1 hbx1.2.2.2.1 (fun g hg => hg) (nil_tm _ _)
  have HE := Lib.hid (And.intro hB hT)
  clear hB hT
  clear hbx1
  go_wp2_with fail
  refine bodyPost_ret (v := .tuple #[.agg #[.int .i64 0, .int .i64 0, .slice none 0 0, .slice none 0 0], .bool false]) ?_ rfl ⟨_, rfl, HE.out.2, HE.out.1⟩
  simp [results, Try.results23, go_sem, r0, r1, r2, r3]
set_option maxRecDepth 100000 in
set_option maxHeartbeats 4000000 in
theorem pow_no3 (t x : Tm) (B C : Nat → Prop) (v u : Value) (w : World) (hv : TmV B w t v) (hu : TmV C w x u) (h7 : t.op = 7) (hr : rightF t 0 = true) (hrx : rightF x 0 = false) : Calls Try.prog 23 #[v, u] w (PowPost w none) := by
  obtain ⟨o, m, d, ks⟩ := t
  obtain ⟨o', m', d', ls⟩ := x
  obtain ⟨c0, c1, c2, c3, rfl, hc⟩ := hv
  obtain ⟨e0, e1, e2, e3, rfl, he⟩ := hu
  obtain ⟨oo, mm, A, la, ca, K, lk, ck, rfl, rfl, rfl, rfl⟩ := hc.shape
  obtain ⟨oo', mm', A', la', ca', K', lk', ck', rfl, rfl, rfl, rfl⟩ := he.shape
  have hoo : oo = o := by unfold TmC at hc; have := hc.1; cases this; rfl
  subst hoo
  have h7 : oo = 7 := h7
  subst h7
  obtain ⟨W0, hW0⟩ : ∃ y, ((w.alloc (.cells #[.int .i64 7, .int .i64 mm, .slice A la ca, .slice K lk ck] 26)).alloc (.cells #[.int .i64 oo', .int .i64 mm', .slice A' la' ca', .slice K' lk' ck'] 26)).alloc (.cells #[.int .i64 0, .int .i64 0, .slice none 0 0, .slice none 0 0] 26) = y := ⟨_, rfl⟩
  have hbx := boxes_new w (.int .i64 7) (.int .i64 mm) (.slice A la ca) (.slice K lk ck) (.int .i64 oo') (.int .i64 mm') (.slice A' la' ca') (.slice K' lk' ck')
  rw [hW0] at hbx
  have h1 := right_any _ B (.agg #[.int .i64 7, .int .i64 mm, .slice A la ca, .slice K lk ck]) W0 ⟨_, _, _, _, rfl, TmC.below hbx.1 _ _ _ _ _ hc⟩
  rw [hr] at h1
  have h2 := fun W (hW : Below w.heap.size w W) => right_any _ C (.agg #[.int .i64 oo', .int .i64 mm', .slice A' la' ca', .slice K' lk' ck']) W ⟨_, _, _, _, rfl, TmC.below hW _ _ _ _ _ he⟩
  rw [hrx] at h2
  have H1 := Lib.hid h1
  have H2 := Lib.hid h2
  have HBX := Lib.hid hbx
  obtain ⟨a0, a1, a2, a3⟩ := hbx.one
  obtain ⟨b0, b1, b2, b3⟩ := hbx.two
  obtain ⟨z0, z1, z2, z3, f0, f1, f2, f3⟩ := hbx.res
  clear h1 h2 hbx hc he hr hrx z0 z1 z2 z3 f0 f1 f2 f3
  go_enter Try.func23, Try.ntmps23
  unfold PowPost
  go_wp2_with fail
  clear hW0
  refine H1.out.mono ?_
  rintro e w1 ⟨rfl, hb1⟩
  have hbx1 := HBX.out.below hb1
  clear a0 a1 a2 a3 b0 b1 b2 b3 H1 HBX hb1
  obtain ⟨a0, a1, a2, a3⟩ := hbx1.one
  obtain ⟨b0, b1, b2, b3⟩ := hbx1.two
  obtain ⟨z0, z1, z2, z3, f0, f1, f2, f3⟩ := hbx1.res
  have h3 := H2.out w1 hbx1.1
  have H3 := Lib.hid h3
  have HBX1 := Lib.hid hbx1
  clear h3 hbx1 H2
  go_wp2_with fail
  refine H3.out.mono ?_
  rintro e w2 ⟨rfl, hb2⟩
  have hbx2 := HBX1.out.below hb2
  clear a0 a1 a2 a3 b0 b1 b2 b3 z0 z1 z2 z3 f0 f1 f2 f3 H3 HBX1 hb2
  obtain ⟨a0, a1, a2, a3⟩ := hbx2.one
  obtain ⟨b0, b1, b2, b3⟩ := hbx2.two
  obtain ⟨z0, z1, z2, z3, f0, f1, f2, f3⟩ := hbx2.res
  obtain ⟨r0, r1, r2, r3, hB, hT⟩ := res_end (w := w) (b := w.heap.size + 1 + 1) (S := fun g => w.heap.size ≤ g ∧ g ≠ w.heap.size + 1 + 1) (by omega) hbx2.1 hbx2.2.2.2.1 (fun g hg => hg) (nil_tm _ _)
  have HE := Lib.hid (And.intro hB hT)
  clear hB hT
  clear hbx2
  go_wp2_with fail
  refine bodyPost_ret (v := .tuple #[.agg #[.int .i64 0, .int .i64 0, .slice none 0 0, .slice none 0 0], .bool false]) ?_ rfl ⟨_, rfl, HE.out.2, HE.out.1⟩
  simp [results, Try.results23, go_sem, r0, r1, r2, r3]
set_option maxRecDepth 100000 in
set_option maxHeartbeats 8000000 in
theorem pow_yes (t x : Tm) (B C : Nat → Prop) (v u : Value) (w : World) (hv : TmV B w t v) (hu : TmV C w x u) (h7 : t.op = 7) (hr : rightF t 0 = true) (hrx : rightF x 0 = true) (hsz : szT t + szT x ≤ 100000) : Calls Try.prog 23 #[v, u] w (PowPost w (if rightF (pow0 t x) 0 = true then some (pow0 t x) else none)) := by
  obtain ⟨R, hR⟩ : ∃ y, (if rightF (pow0 t x) 0 = true then some (pow0 t x) else none) = y := ⟨_, rfl⟩
  rw [hR]
  have HR := Lib.hid hR
  clear hR
  obtain ⟨o, m, d, ks⟩ := t
  obtain ⟨o', m', d', ls⟩ := x
  obtain ⟨c0, c1, c2, c3, rfl, hc⟩ := hv
  obtain ⟨e0, e1, e2, e3, rfl, he⟩ := hu
  obtain ⟨oo, mm, A, la, ca, K, lk, ck, rfl, rfl, rfl, rfl⟩ := hc.shape
  obtain ⟨oo', mm', A', la', ca', K', lk', ck', rfl, rfl, rfl, rfl⟩ := he.shape
  have hoo : oo = o := by unfold TmC at hc; have := hc.1; cases this; rfl
  subst hoo
  have h7 : oo = 7 := h7
  subst h7
  obtain ⟨W0, hW0⟩ : ∃ y, ((w.alloc (.cells #[.int .i64 7, .int .i64 mm, .slice A la ca, .slice K lk ck] 26)).alloc (.cells #[.int .i64 oo', .int .i64 mm', .slice A' la' ca', .slice K' lk' ck'] 26)).alloc (.cells #[.int .i64 0, .int .i64 0, .slice none 0 0, .slice none 0 0] 26) = y := ⟨_, rfl⟩
  have hbx := boxes_new w (.int .i64 7) (.int .i64 mm) (.slice A la ca) (.slice K lk ck) (.int .i64 oo') (.int .i64 mm') (.slice A' la' ca') (.slice K' lk' ck')
  rw [hW0] at hbx
  have h1 := right_any _ B (.agg #[.int .i64 7, .int .i64 mm, .slice A la ca, .slice K lk ck]) W0 ⟨_, _, _, _, rfl, TmC.below hbx.1 _ _ _ _ _ hc⟩
  rw [hr] at h1
  have h2 := fun W (hW : Below w.heap.size w W) => right_any _ C (.agg #[.int .i64 oo', .int .i64 mm', .slice A' la' ca', .slice K' lk' ck']) W ⟨_, _, _, _, rfl, TmC.below hW _ _ _ _ _ he⟩
  rw [hrx] at h2
  have H1 := Lib.hid h1
  have H2 := Lib.hid h2
  have HBX := Lib.hid hbx
  obtain ⟨a0, a1, a2, a3⟩ := hbx.one
  obtain ⟨b0, b1, b2, b3⟩ := hbx.two
  obtain ⟨z0, z1, z2, z3, f0, f1, f2, f3⟩ := hbx.res
  obtain ⟨hll, hlc, hcm, cs, hq, hcl, hco, hcc⟩ : ks.length = lk ∧ lk ≤ ck ∧ ck ≤ maxLen ∧ ∃ cs, Quads B w ks cs ∧ cs.length = lk * 4 ∧ (∀ u ∈ cs, u.oneCell' = true) ∧ (0 < lk → ∃ g off, K = some ⟨g, off, none⟩ ∧ g < w.heap.size ∧ ∀ j u, cs[j]? = some u → w.cell? ⟨g, off + j, none⟩ = some u) := term_kids hc
  have hn4 : lk ≤ 4 := by rw [← hll]; exact right_len hr
  have hck9 : ck ≤ 9223372036854775807 := by unfold maxLen at hcm; omega
  have HC := Lib.hid hc
  have HE := Lib.hid he
  have HQ := Lib.hid hq
  have HCC := Lib.hid hcc
  have HRT := Lib.hid hr
  have HRX := Lib.hid hrx
  have HCL := Lib.hid hcl
  have HLL := Lib.hid hll
  have HSZ := Lib.hid hsz
  clear h1 h2 hbx hc he hr hrx z0 z1 z2 z3 f0 f1 f2 f3 hq hcl hco hcc hll hsz
  go_enter Try.func23, Try.ntmps23
  unfold PowPost
  go_wp2_with fail
  clear hW0
  refine H1.out.mono ?_
  rintro e w1 ⟨rfl, hb1⟩
  have hbx1 := HBX.out.below hb1
  clear a0 a1 a2 a3 b0 b1 b2 b3 H1 HBX hb1
  obtain ⟨a0, a1, a2, a3⟩ := hbx1.one
  obtain ⟨b0, b1, b2, b3⟩ := hbx1.two
  obtain ⟨z0, z1, z2, z3, f0, f1, f2, f3⟩ := hbx1.res
  have h3 := H2.out w1 hbx1.1
  have H3 := Lib.hid h3
  have HBX1 := Lib.hid hbx1
  clear h3 hbx1 H2
  go_wp2_with fail
  refine H3.out.mono ?_
  rintro e w2 ⟨rfl, hb2⟩
  have hbx2 := HBX1.out.below hb2
  clear a0 a1 a2 a3 b0 b1 b2 b3 z0 z1 z2 z3 f0 f1 f2 f3 H3 HBX1 hb2
  obtain ⟨a0, a1, a2, a3⟩ := hbx2.one
  obtain ⟨b0, b1, b2, b3⟩ := hbx2.two
  obtain ⟨z0, z1, z2, z3, f0, f1, f2, f3⟩ := hbx2.res
  have HBX2 := Lib.hid hbx2
  clear hbx2 z0 z1 z2 z3 f0 f1 f2 f3
  obtain ⟨WX, hWX⟩ : ∃ y, w2.alloc (.cells #[.int .i64 oo', .int .i64 mm', .slice A' la' ca', .slice K' lk' ck'] 26) = y := ⟨_, rfl⟩
  have hbwx : Below w2.heap.size w2 WX.drew := by rw [← hWX]; exact (below_new _ _).drew
  have hnew : WX.drew.heap[w2.heap.size]? = some (.cells #[.int .i64 oo', .int .i64 mm', .slice A' la' ca', .slice K' lk' ck'] 26) := by show WX.heap[_]? = _; rw [← hWX]; exact heap_new_ _ _
  obtain ⟨vk, W3, hrun, hown, hb3⟩ := grows_terms WX.drew K lk cs HCL.out (fun hp => by
    obtain ⟨g, off, e, hg, hc⟩ := HCC.out hp
    exact ⟨g, off, e, fun j u hu => ((HBX2.out.1.trans (hbwx.mono HBX2.out.1.size)).cell (p := ⟨g, off + j, none⟩) hg).trans (hc j u hu)⟩) (by omega) ⟨w2.heap.size, 0, none⟩ 1 [.int .i64 oo', .int .i64 mm', .slice A' la' ca', .slice K' lk' ck'] rfl (by simp [Value.oneCell']) (fun j u hu => by
    rw [Addr.add_lit, Nat.zero_add, Lib.cell_of_heap hnew, ← hu]
    simp)
  have hbwn : Below w2.heap.size w2 WX := by rw [← hWX]; exact below_new _ _
  obtain ⟨g0, g1, g2, g3⟩ := (HBX2.out.below hbwn).one
  obtain ⟨h0, h1, h2, h3⟩ := (HBX2.out.below hbwn).two
  have hbw3 : Below w2.heap.size w2 W3 := hbwx.trans (hb3.mono hbwx.size)
  have hbx3 := HBX2.out.below hbw3
  have hst0 : Below w.heap.size w W3 := hbx3.1
  obtain ⟨Ak, ck2, rfl, hterm⟩ := own_term (W := W3) (ks := ks ++ [.mk o' m' d' ls]) (S := fun _ => True) (o := 7) (m := 0) (by unfold I64; omega) (by unfold I64; omega) hown (Quads.snoc (TmC.mono (fun _ _ => trivial) _ _ _ _ _ (TmC.below hst0 _ _ _ _ _ HE.out)) ((Quads.stays (stays_below hst0 _) HQ.out).mono (fun _ _ => trivial))) (by rw [List.length_append, HLL.out]; rfl) (fun _ => True) (fun _ _ => trivial) (fun _ _ _ => trivial)
  have hnorm := norm_any (.mk 7 0 [] (ks ++ [.mk o' m' d' ls])) (pow_sz HSZ.out) (pow_fit HRT.out HRX.out) _ _ W3 ⟨_, _, _, _, rfl, hterm⟩
  rw [show normF (.mk 7 0 [] (ks ++ [.mk o' m' d' ls])) = pow0 (.mk 7 m d ks) (.mk o' m' d' ls) from norm_pow HRT.out HRX.out] at hnorm
  have HNO := Lib.hid hnorm
  have HBX3 := Lib.hid hbx3
  have hstep : w2.alloc (.cells #[.int .i64 oo', .int .i64 mm', .slice A' la' ca', .slice K' lk' ck'] 26) = WX := hWX
  clear hnorm hterm hst0 hbx3 hbw3 hb3 hown hnew hbwx hWX hbwn
  go_wp2_with fail
  go_region_law (refine step_run rfl (.tmp 30) (.tmp 32) 24 rfl _ _ _ (by simp [Act.eval, Act.put]) (by simp [Act.eval, Act.put]) hrun ?_)
  all_goals
    clear hstep hrun a0 a1 a2 a3 b0 b1 b2 b3 g0 g1 g2 g3 h0 h1 h2 h3
    go_wp2_with fail
    refine HNO.out.mono ?_
    rintro e w6 ⟨v6, rfl, ⟨n0, n1, n2, n3, rfl, hk6⟩, hb6⟩
    obtain ⟨o6, m6, A6, la6, ca6, K6, lk6, ck6, rfl, rfl, rfl, rfl⟩ := hk6.shape
    have hbx6 := HBX3.out.below hb6
    have hW7 : ∃ y, w6.alloc (.cells #[.int .i64 o6, .int .i64 m6, .slice A6 la6 ca6, .slice K6 lk6 ck6] 26) = y := ⟨_, rfl⟩
    obtain ⟨w7, hw7⟩ := hW7
    have hb7 : Below w6.heap.size w6 w7 := by rw [← hw7]; exact below_new _ _
    have hn7 : w7.heap[w6.heap.size]? = some (.cells #[.int .i64 o6, .int .i64 m6, .slice A6 la6 ca6, .slice K6 lk6 ck6] 26) := by rw [← hw7]; exact heap_new_ _ _
    have hz7 : w6.heap.size < w7.heap.size := by rw [← hw7]; simp
    have hbx7 := hbx6.below hb7
    have hk7 := TmC.below hb7 _ _ _ _ _ hk6
    have hr7 := right_any (pow0 (.mk 7 m d ks) (.mk o' m' d' ls)) _ (.agg #[.int .i64 o6, .int .i64 m6, .slice A6 la6 ca6, .slice K6 lk6 ck6]) w7 ⟨_, _, _, _, rfl, hk7⟩
    have p0 : w7.cell? ⟨w6.heap.size, 0, none⟩ = some (.int .i64 o6) := by rw [Lib.cell_of_heap hn7]; rfl
    have p1 : w7.cell? ⟨w6.heap.size, 1, none⟩ = some (.int .i64 m6) := by rw [Lib.cell_of_heap hn7]; rfl
    have p2 : w7.cell? ⟨w6.heap.size, 2, none⟩ = some (.slice A6 la6 ca6) := by rw [Lib.cell_of_heap hn7]; rfl
    have p3 : w7.cell? ⟨w6.heap.size, 3, none⟩ = some (.slice K6 lk6 ck6) := by rw [Lib.cell_of_heap hn7]; rfl
    have hz3 := HBX3.out.2.2.2.2
    have hz36 := hb6.size
    have hy7 : TmC (fun g => w.heap.size ≤ g ∧ g ≠ w.heap.size + 1 + 1) w7 (pow0 (.mk 7 m d ks) (.mk o' m' d' ls)) (.int .i64 o6) (.int .i64 m6) (.slice A6 la6 ca6) (.slice K6 lk6 ck6) := TmC.mono (fun g hg => by have hg : W3.heap.size ≤ g := hg; constructor <;> omega) _ _ _ _ _ hk7
    obtain ⟨q, hq⟩ : ∃ y, rightF (pow0 (.mk 7 m d ks) (.mk o' m' d' ls)) 0 = y := ⟨_, rfl⟩
    rw [hq] at hr7
    have HR7 := Lib.hid hr7
    have HBX7 := Lib.hid hbx7
    have HY7 := Lib.hid hy7
    have HN7 := Lib.hid hn7
    have HQQ := Lib.hid hq
    have HZ7 := Lib.hid hz7
    clear hr7 hk7 hbx7 hbx6 hb7 hn7 hb6 hk6 HNO HBX3 hz3 hz36 hy7 hq HC HE HQ HCC HRT HRX HCL HLL HSZ HBX2 hz7
    go_wp2_with fail
    clear hw7
    refine HR7.out.mono ?_
    rintro e w8 ⟨rfl, hb8⟩
    have hbx8 := HBX7.out.below hb8
    have hn8 := (hb8.block _ HZ7.out).trans HN7.out
    have hy8 := TmC.below hb8 _ _ _ _ _ HY7.out
    obtain ⟨z0, z1, z2, z3, f0, f1, f2, f3⟩ := hbx8.res
    by_cases hqq : q = true
    · subst hqq
      have eR : some (pow0 (.mk 7 m d ks) (.mk o' m' d' ls)) = R := by rw [← HR.out]; exact (if_pos HQQ.out).symm
      subst eR
      obtain ⟨r0, r1, r2, r3, hB, hT⟩ := res_end (w := w) (b := w.heap.size + 1 + 1) (S := fun g => w.heap.size ≤ g ∧ g ≠ w.heap.size + 1 + 1) (by omega) hbx8.1 hbx8.2.2.2.1 (fun g hg => hg) hy8
      have HE := Lib.hid (And.intro hB hT)
      have p0 : w8.cell? ⟨w6.heap.size, 0, none⟩ = some (.int .i64 o6) := by rw [Lib.cell_of_heap hn8]; rfl
      have p1 : w8.cell? ⟨w6.heap.size, 1, none⟩ = some (.int .i64 m6) := by rw [Lib.cell_of_heap hn8]; rfl
      have p2 : w8.cell? ⟨w6.heap.size, 2, none⟩ = some (.slice A6 la6 ca6) := by rw [Lib.cell_of_heap hn8]; rfl
      have p3 : w8.cell? ⟨w6.heap.size, 3, none⟩ = some (.slice K6 lk6 ck6) := by rw [Lib.cell_of_heap hn8]; rfl
      clear hB hT hbx8 hn8 hy8 hb8 HR7 HBX7 HN7 HY7 HQQ HR
      go_wp2_with fail
      refine bodyPost_ret (v := .tuple #[.agg #[.int .i64 o6, .int .i64 m6, .slice A6 la6 ca6, .slice K6 lk6 ck6], .bool true]) ?_ rfl ⟨_, rfl, HE.out.2, HE.out.1⟩
      simp [results, Try.results23, go_sem, r0, r1, r2, r3]
    · have hqf : q = false := by simpa using hqq
      subst hqf
      have eR : none = R := by rw [← HR.out]; exact (if_neg (by rw [HQQ.out]; simp)).symm
      subst eR
      obtain ⟨r0, r1, r2, r3, hB, hT⟩ := res_end (w := w) (b := w.heap.size + 1 + 1) (S := fun g => w.heap.size ≤ g ∧ g ≠ w.heap.size + 1 + 1) (by omega) hbx8.1 hbx8.2.2.2.1 (fun g hg => hg) (nil_tm _ _)
      have HE := Lib.hid (And.intro hB hT)
      clear hB hT hbx8 hn8 hy8 hb8 HR7 HBX7 HN7 HY7 HQQ HR hqq
      go_wp2_with fail
      refine bodyPost_ret (v := .tuple #[.agg #[.int .i64 0, .int .i64 0, .slice none 0 0, .slice none 0 0], .bool false]) ?_ rfl ⟨_, rfl, HE.out.2, HE.out.1⟩
      simp [results, Try.results23, go_sem, r0, r1, r2, r3]
/-- Pow's contract. -/
theorem pow_any (t x : Tm) (B C : Nat → Prop) (v u : Value) (w : World) (hv : TmV B w t v) (hu : TmV C w x u) (hsz : szT t + szT x ≤ 100000) : Calls Try.prog 23 #[v, u] w (PowPost w (powF t x)) := by
  by_cases h7 : t.op = 7
  · by_cases hr : rightF t 0 = true
    · by_cases hx : rightF x 0 = true
      · have h := pow_yes t x B C v u w hv hu h7 hr hx hsz
        unfold powF
        rw [if_pos ⟨hr, hx, h7⟩]
        exact h
      · have h := pow_no3 t x B C v u w hv hu h7 hr (by simpa using hx)
        unfold powF
        rw [if_neg (fun e => hx e.2.1)]
        exact h
    · have h := pow_no2 t x B C v u w hv hu h7 (by simpa using hr)
      unfold powF
      rw [if_neg (fun e => hr e.1)]
      exact h
  · have h := pow_no1 t x B C v u w hv hu h7
    unfold powF
    rw [if_neg (fun e => h7 e.2.2)]
    exact h
end Go.Proofs.Ytoaacacbjimloaa.tmc
