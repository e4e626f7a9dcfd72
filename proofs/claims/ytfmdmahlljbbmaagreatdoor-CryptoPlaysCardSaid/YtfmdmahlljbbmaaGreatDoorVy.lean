/- The document's vault: Intern, Term. -/
import Derived.Test.YtfmdmahlljbbmaaGreatDoorVw
import Derived.Test.YtfmdmahlljbbmaaGreatDoorVm
namespace Go.Proofs.YtfmdmahlljbbmaaGreatDoor.vtc
open Go.RowKit Go.Proofs.YtfmdmahlljbbmaaGreatDoor.tlvc Go.Proofs.YtfmdmahlljbbmaaGreatDoor.tmc
set_option linter.unusedVariables false
def RInternPost (Q : Nat → Prop) (rb : Nat) (ob : Option Nat) (w : World) (r : Int × Int × List Tm) (e : Ending) (w' : World) : Prop := ∃ ob', e = .returned (.tuple #[.int .i64 r.1, .int .i64 r.2.1]) ∧ RVl Q w' rb ob' r.2.2 ∧ (ob' = ob ∨ ∃ g, ob' = some g ∧ w.heap.size ≤ g) ∧ Off (MutR rb ob) w w'
theorem rintern_same {Q : Nat → Prop} {rb : Nat} {ob : Option Nat} {L : List Tm} {w w' : World} (hV : RVl Q w rb ob L) (h : Below w.heap.size w w') (n e : Int) : RInternPost Q rb ob w (n, e, L) (.returned (.tuple #[.int .i64 n, .int .i64 e])) w' :=
  ⟨ob, rfl, hV.below h, .inl rfl, Off.of_below h⟩
set_option maxRecDepth 100000 in
set_option maxHeartbeats 8000000 in
theorem rintern_any (Q B : Nat → Prop) (rb : Nat) (ob : Option Nat) (L : List Tm) (t : Tm) (v : Value) (w : World) (hV : RVl Q w rb ob L) (hv : TmV B w t v) (hBQ : ∀ g, B g → Q g) (hQ : ∀ g, Q g → g < w.heap.size) (hsz : szT t ≤ 10000) :
    Calls Tryz.prog 30 #[.pointer (some ⟨rb, 0, none⟩), v] w (RInternPost Q rb ob w (internV t L)) := by
  obtain ⟨c0, c1, c2, c3, rfl, hc⟩ := hv
  obtain ⟨oo, mm, A, la, ca, K, n, ck, rfl, rfl, rfl, rfl⟩ := hc.shape
  have hb0 : Below w.heap.size w (w.alloc (.cells #[.int .i64 oo, .int .i64 mm, .slice A la ca, .slice K n ck] 57)) := below_new _ _
  obtain ⟨W0, hW0⟩ : ∃ x, w.alloc (.cells #[.int .i64 oo, .int .i64 mm, .slice A la ca, .slice K n ck] 57) = x := ⟨_, rfl⟩
  rw [hW0] at hb0
  have p0 : W0.heap[w.heap.size]? = some (.cells #[.int .i64 oo, .int .i64 mm, .slice A la ca, .slice K n ck] 57) := by rw [← hW0]; exact heap_new_ _ _
  have hz0 : w.heap.size < W0.heap.size := (Array.getElem?_eq_some_iff.1 p0).1
  have hbox : ∀ W, Below W0.heap.size W0 W → W.cell? ⟨w.heap.size, 0, none⟩ = some (.int .i64 oo) ∧ W.cell? ⟨w.heap.size, 1, none⟩ = some (.int .i64 mm) ∧ W.cell? ⟨w.heap.size, 2, none⟩ = some (.slice A la ca) ∧ W.cell? ⟨w.heap.size, 3, none⟩ = some (.slice K n ck) := fun W hW => by
    have h := (hW.block w.heap.size (by omega)).trans p0
    exact ⟨(Lib.cell_of_heap h _).trans rfl, (Lib.cell_of_heap h _).trans rfl, (Lib.cell_of_heap h _).trans rfl, (Lib.cell_of_heap h _).trans rfl⟩
  have hte : ∀ W, Below W0.heap.size W0 W → TmV B W t (.agg #[.int .i64 oo, .int .i64 mm, .slice A la ca, .slice K n ck]) := fun W hW => ⟨_, _, _, _, rfl, TmC.below (hb0.trans (hW.mono hb0.size)) _ _ _ _ _ hc⟩
  have C1 := rright_any t B (.agg #[.int .i64 oo, .int .i64 mm, .slice A la ca, .slice K n ck]) W0 (hte W0 (Below.refl _ _))
  have hV0 := hV.below hb0
  have C2 := fun (W : World) (hW : Below W0.heap.size W0 W) => rfind_any Q B rb ob L t (.agg #[.int .i64 oo, .int .i64 mm, .slice A la ca, .slice K n ck]) W (hV0.below hW) (hte W hW)
  have C4 := fun (hlt : L.length + szT t ≤ 100000) (W : World) (hW : Below W0.heap.size W0 W) => rput_any t Q B rb ob L (.agg #[.int .i64 oo, .int .i64 mm, .slice A la ca, .slice K n ck]) W (hV0.below hW) (hte W hW) hBQ (fun g hg => by have := hQ g hg; have := hW.size; omega) hlt
  obtain ⟨b0, b1, b2, b3⟩ := hbox W0 (Below.refl _ _)
  have HB0 := Lib.hid hb0
  have HBX := Lib.hid hbox
  have HV := Lib.hid hV
  have HV0 := Lib.hid hV0
  have HTE := Lib.hid hte
  have HC4 := Lib.hid C4
  have HWW := Lib.hid hW0
  cases hr : rightF t 0 with
  | false =>
    rw [intern_no hr]
    rw [hr] at C1
    have HC1 := Lib.hid C1
    clear C1 C2 C4 hr hb0 hbox hc hV hV0 p0 hz0 hte hBQ hQ hW0
    go_enter Tryz.func30, Tryz.ntmps30
    go_wp2_with (first | (go_at_call 47; rw [HWW.out]; refine HC1.out.mono ?_; rintro e w1 ⟨rfl, hb1⟩))
    have HE := Lib.hid (HB0.out.trans (hb1.mono HB0.out.size))
    clear hb1
    go_wp2
    go_ret2
    exact rintern_same HV.out HE.out _ _
  | true =>
    rw [hr] at C1
    have HC1 := Lib.hid C1
    cases hf : findV t L with
    | some i =>
      rw [intern_had hr hf]
      have C3 := C2
      rw [numI_some hf, hf] at C3
      have HC3 := Lib.hid C3
      clear C1 C2 C3 C4 hr hb0 hbox hc hV hV0 p0 hz0 hte hBQ hQ hf hW0
      go_enter Tryz.func30, Tryz.ntmps30
      go_wp2_with (first | (go_at_call 47; rw [HWW.out]; refine HC1.out.mono ?_; rintro e w1 ⟨rfl, hb1⟩; obtain ⟨y0, y1, y2, y3⟩ := HBX.out w1 hb1) | (go_at_call 48; refine (HC3.out w1 hb1).mono ?_; rintro e w2 ⟨rfl, hb2⟩))
      have HE := Lib.hid (HB0.out.trans ((hb1.trans (hb2.mono hb1.size)).mono HB0.out.size))
      clear hb1 hb2 y0 y1 y2 y3
      go_wp2
      go_ret2
      exact rintern_same HV.out HE.out _ _
    | none =>
      have C3 := C2
      rw [numI_none hf, hf] at C3
      have HC3 := Lib.hid C3
      have hcell : ∀ (W : World), Below W0.heap.size W0 W → ∃ A9 c9, ∀ (q : Nat) (os : Array Obj), (Sort.grow (redrawn W q) os).cell? ⟨rb, 0, none⟩ = some (.slice A9 L.length c9) := fun W hW => by
        obtain ⟨A9, c9, x0, _⟩ := (HV0.out.below hW).at
        exact ⟨A9, c9, fun q os => cell_regrown x0 q os⟩
      have hsize := fun (W : World) (hW : Below W0.heap.size W0 W) (q : Nat) (os : Array Obj) => refSize_any 10000 t hsz (by omega) (.agg #[.int .i64 oo, .int .i64 mm, .slice A la ca, .slice K n ck]) (Sort.grow (redrawn W q) os) (TmV.below (HTE.out W hW) (below_regrown W q os))
      have HCELL := Lib.hid hcell
      have HSIZE := Lib.hid hsize
      have hll := HV.out.len
      obtain ⟨l, hl⟩ : ∃ x, L.length = x := ⟨_, rfl⟩
      obtain ⟨z, hz⟩ : ∃ x, szT t = x := ⟨_, rfl⟩
      rw [hl] at HCELL hll
      rw [hz] at HSIZE hsz
      have hwrap : IntKind.i64.wrap ((l : Int) + (z : Int)) = (l : Int) + (z : Int) := IntWalk.i64_in _ (by omega)
      by_cases hroom : l + z ≤ 4096
      · have hrz : ¬ (4096 : Int) < (l : Int) + (z : Int) := by omega
        rw [intern_new hr hf (by omega)]
        have HF := Lib.hid (And.intro hf (And.intro hr (show L.length + szT t ≤ 100000 by omega)))
        clear C1 C2 C3 C4 hb0 hbox hc hV hV0 p0 hz0 hte hBQ hQ hf hcell hsize hr hl hz hW0
        go_enter Tryz.func30, Tryz.ntmps30
        go_wp2_with (first | (go_at_call 47; rw [HWW.out]; refine HC1.out.mono ?_; rintro e w1 ⟨rfl, hb1⟩; obtain ⟨y0, y1, y2, y3⟩ := HBX.out w1 hb1) | (go_at_call 48; refine (HC3.out w1 hb1).mono ?_; rintro e w2 ⟨rfl, hb2⟩))
        have hb3 := hb1.trans (hb2.mono hb1.size)
        have HB3 := Lib.hid hb3
        have z4 := fun (q : Nat) (os : Array Obj) => HBX.out _ (hb3.trans ((below_regrown w2 q os).mono hb3.size))
        have z0 := fun q os => (z4 q os).1
        have z1 := fun q os => (z4 q os).2.1
        have z2 := fun q os => (z4 q os).2.2.1
        have z3 := fun q os => (z4 q os).2.2.2
        obtain ⟨A9, c9, x9⟩ := HCELL.out w2 hb3
        have HS2 := Lib.hid (HSIZE.out w2 hb3)
        clear hb1 hb2 hb3 y0 y1 y2 y3 b0 b1 b2 b3 z4
        refine wp_region_quiet_below (by kernel_rfl) (by kernel_rfl) ?_
        repeat (go_big_quiet_step ((go_at_call 49; refine Calls.regrown_of (HS2.out _ _))))
        refine wpQuiet_nil ?_
        intro _ hw'
        obtain ⟨⟨nq, osq⟩, hw''⟩ := hw'
        subst hw''
        obtain ⟨W, hW⟩ : ∃ x, Sort.grow (redrawn w2 nq) osq = x := ⟨_, rfl⟩
        have hbW : Below W0.heap.size W0 W := by rw [← hW]; exact HB3.out.trans ((below_regrown w2 nq osq).mono HB3.out.size)
        rw [hW]
        have HBW := Lib.hid hbW
        clear hbW hW z0 z1 z2 z3 HS2 x9
        obtain ⟨y0, y1, y2, y3⟩ := HBX.out W HBW.out
        have C5 := HC4.out HF.out.2.2 W HBW.out
        rw [rnumP_none HF.out.1] at C5
        have HC5 := Lib.hid C5
        clear C5
        go_wp2_with (go_at_call 50; refine HC5.out.mono ?_; rintro e w4 ⟨ob', rfl, hV4, hob4, hoff4⟩)
        have HE := Lib.hid (And.intro hV4 (And.intro hob4 hoff4))
        clear hV4 hob4 hoff4 y0 y1 y2 y3 HC5
        go_wp2
        go_ret2
        obtain ⟨hV4, hob4, hoff4⟩ := HE.out
        have hbw : Below w.heap.size w W := HB0.out.trans (HBW.out.mono HB0.out.size)
        have hs := hbw.size
        exact ⟨ob', rfl, hV4, hob4.imp id (fun ⟨g, e, hg⟩ => ⟨g, e, by omega⟩), (Off.of_below (S := MutR rb ob) hbw).trans hoff4 (fun _ _ e => e) (fun _ _ e => e)⟩
      · have hrz : (4096 : Int) < (l : Int) + (z : Int) := by omega
        rw [intern_full hr hf (by omega)]
        clear C1 C2 C3 C4 hb0 hbox hc hV hV0 p0 hz0 hte hBQ hQ hf hcell hsize hr hl hz hW0
        go_enter Tryz.func30, Tryz.ntmps30
        go_wp2_with (first | (go_at_call 47; rw [HWW.out]; refine HC1.out.mono ?_; rintro e w1 ⟨rfl, hb1⟩; obtain ⟨y0, y1, y2, y3⟩ := HBX.out w1 hb1) | (go_at_call 48; refine (HC3.out w1 hb1).mono ?_; rintro e w2 ⟨rfl, hb2⟩))
        have hb3 := hb1.trans (hb2.mono hb1.size)
        have HB3 := Lib.hid hb3
        have z4 := fun (q : Nat) (os : Array Obj) => HBX.out _ (hb3.trans ((below_regrown w2 q os).mono hb3.size))
        have z0 := fun q os => (z4 q os).1
        have z1 := fun q os => (z4 q os).2.1
        have z2 := fun q os => (z4 q os).2.2.1
        have z3 := fun q os => (z4 q os).2.2.2
        obtain ⟨A9, c9, x9⟩ := HCELL.out w2 hb3
        have HS2 := Lib.hid (HSIZE.out w2 hb3)
        clear hb1 hb2 hb3 y0 y1 y2 y3 b0 b1 b2 b3 z4
        refine wp_region_quiet_below (by kernel_rfl) (by kernel_rfl) ?_
        repeat (go_big_quiet_step ((go_at_call 49; refine Calls.regrown_of (HS2.out _ _))))
        refine wpQuiet_nil ?_
        intro _ hw'
        obtain ⟨⟨nq, osq⟩, hw''⟩ := hw'
        subst hw''
        obtain ⟨W, hW⟩ : ∃ x, Sort.grow (redrawn w2 nq) osq = x := ⟨_, rfl⟩
        have hbW : Below W0.heap.size W0 W := by rw [← hW]; exact HB3.out.trans ((below_regrown w2 nq osq).mono HB3.out.size)
        rw [hW]
        have HBW := Lib.hid hbW
        clear hbW hW z0 z1 z2 z3 HS2 x9
        have HE := Lib.hid (HB0.out.trans (HBW.out.mono HB0.out.size))
        go_wp2
        go_ret2
        exact rintern_same HV.out HE.out _ _
def RTermPost (Q : Nat → Prop) (w : World) (t : Tm) (is : Bool) (e : Ending) (w' : World) : Prop := ∃ v, e = .returned (.tuple #[v, .bool is]) ∧ TmV Q w' t v ∧ Below w.heap.size w w'
set_option maxRecDepth 100000 in
set_option maxHeartbeats 4000000 in
theorem rterm_no (Q : Nat → Prop) (rb : Nat) (ob : Option Nat) (L : List Tm) (n : Int) (w : World) (hV : RVl Q w rb ob L) (hn : n < 0 ∨ (L.length : Int) ≤ n) :
    Calls Tryz.prog 37 #[.pointer (some ⟨rb, 0, none⟩), .int .i64 n] w (RTermPost Q w (.mk 0 0 [] []) false) := by
  obtain ⟨W0, hW0⟩ : ∃ x, w.alloc (.cells #[.int .i64 0, .int .i64 0, .slice none 0 0, .slice none 0 0] 57) = x := ⟨_, rfl⟩
  have hb0 : Below w.heap.size w W0 := by rw [← hW0]; exact below_new _ _
  have p0 : W0.heap[w.heap.size]? = some (.cells #[.int .i64 0, .int .i64 0, .slice none 0 0, .slice none 0 0] 57) := by rw [← hW0]; exact heap_new_ _ _
  have hV0 := hV.below hb0
  obtain ⟨A9, c9, x0, _⟩ := hV0.at
  have f := fun i => Lib.frozen_of_heap p0 i
  have f0 := f 0
  have f1 := f 1
  have f2 := f 2
  have f3 := f 3
  have t0 : W0.cell? ⟨w.heap.size, 0, none⟩ = some (.int .i64 0) := (Lib.cell_of_heap p0 _).trans rfl
  have t1 : W0.cell? ⟨w.heap.size, 1, none⟩ = some (.int .i64 0) := (Lib.cell_of_heap p0 _).trans rfl
  have t2 : W0.cell? ⟨w.heap.size, 2, none⟩ = some (.slice none 0 0) := (Lib.cell_of_heap p0 _).trans rfl
  have t3 : W0.cell? ⟨w.heap.size, 3, none⟩ = some (.slice none 0 0) := (Lib.cell_of_heap p0 _).trans rfl
  obtain ⟨r0, r1, r2, r3, hB, hT⟩ := res_end2 (w := w) (W := W0) (b := w.heap.size) (S := fun _ => False) (Nat.le_refl _) hb0 p0 (fun g hg => hg.elim) (nil_tm (fun _ => False) W0)
  have HE := Lib.hid (And.intro hB (TmV.mono hT (B' := Q) (fun g hg => hg.elim)))
  obtain ⟨l, hl⟩ : ∃ x, L.length = x := ⟨_, rfl⟩
  rw [hl] at hn x0
  clear hB hT hV hV0 p0 hb0 f hl
  rcases hn with h | h
  · go_enter Tryz.func37, Tryz.ntmps37
    go_wp2_with fail
    refine bodyPost_ret (v := .tuple #[.agg #[.int .i64 0, .int .i64 0, .slice none 0 0, .slice none 0 0], .bool false]) ?_ rfl ⟨_, rfl, HE.out.2, HE.out.1⟩
    simp [results, Tryz.results37, go_sem, r0, r1, r2, r3]
  · have h0 : ¬ n < 0 := by omega
    go_enter Tryz.func37, Tryz.ntmps37
    go_wp2_with fail
    refine bodyPost_ret (v := .tuple #[.agg #[.int .i64 0, .int .i64 0, .slice none 0 0, .slice none 0 0], .bool false]) ?_ rfl ⟨_, rfl, HE.out.2, HE.out.1⟩
    simp [results, Tryz.results37, go_sem, r0, r1, r2, r3]
set_option maxRecDepth 100000 in
set_option maxHeartbeats 4000000 in
theorem rterm_yes (Q : Nat → Prop) (rb : Nat) (ob : Option Nat) (L : List Tm) (n : Nat) (t : Tm) (w : World) (hV : RVl Q w rb ob L) (hQ : ∀ g, Q g → g < w.heap.size) (hn : L[n]? = some t) :
    Calls Tryz.prog 37 #[.pointer (some ⟨rb, 0, none⟩), .int .i64 n] w (RTermPost Q w t true) := by
  have hnl := (List.getElem?_eq_some_iff.1 hn).1
  obtain ⟨W0, hW0⟩ : ∃ x, w.alloc (.cells #[.int .i64 0, .int .i64 0, .slice none 0 0, .slice none 0 0] 57) = x := ⟨_, rfl⟩
  have hb0 : Below w.heap.size w W0 := by rw [← hW0]; exact below_new _ _
  have p0 : W0.heap[w.heap.size]? = some (.cells #[.int .i64 0, .int .i64 0, .slice none 0 0, .slice none 0 0] 57) := by rw [← hW0]; exact heap_new_ _ _
  have hV0 := hV.below hb0
  obtain ⟨A9, c9, x0, x2, x3, _, x4⟩ := hV0.at
  obtain ⟨g9, d0, d1, d2, d3, rfl, e0, e1, e2, e3, hd⟩ := x4 n t hn
  obtain ⟨to, tm, tA, tla, tca, tK, tlk, tck, q0, q1, q2, q3⟩ := hd.shape
  subst q0 q1 q2 q3
  have f0 := Lib.frozen_of_heap p0 0
  have f1 := Lib.frozen_of_heap p0 1
  have f2 := Lib.frozen_of_heap p0 2
  have f3 := Lib.frozen_of_heap p0 3
  obtain ⟨s0, s1, s2, s3⟩ : W0.cell? ⟨w.heap.size, 0, none⟩ = some (.int .i64 0) ∧ W0.cell? ⟨w.heap.size, 1, none⟩ = some (.int .i64 0) ∧ W0.cell? ⟨w.heap.size, 2, none⟩ = some (.slice none 0 0) ∧ W0.cell? ⟨w.heap.size, 3, none⟩ = some (.slice none 0 0) := ⟨(Lib.cell_of_heap p0 _).trans rfl, (Lib.cell_of_heap p0 _).trans rfl, (Lib.cell_of_heap p0 _).trans rfl, (Lib.cell_of_heap p0 _).trans rfl⟩
  obtain ⟨r0, r1, r2, r3, hB, hT⟩ := res_end2 (w := w) (W := W0) (b := w.heap.size) (S := Q) (Nat.le_refl _) hb0 p0 (fun g hg => by have := hQ g hg; omega) hd
  have HE := Lib.hid (And.intro hB hT)
  obtain ⟨l, hl⟩ : ∃ x, L.length = x := ⟨_, rfl⟩
  rw [hl] at hnl x0 x2
  have hlz : (n : Int) < (l : Int) := by omega
  have h0z : ¬ (n : Int) < 0 := by omega
  have h1z : ¬ (l : Int) ≤ (n : Int) := by omega
  clear hV hV0 hn x4 hd hl p0 hb0 hB hT hQ
  go_enter Tryz.func37, Tryz.ntmps37
  go_wp2_with fail
  refine bodyPost_ret (v := .tuple #[.agg #[.int .i64 to, .int .i64 tm, .slice tA tla tca, .slice tK tlk tck], .bool true]) ?_ rfl ⟨_, rfl, HE.out.2, HE.out.1⟩
  simp [results, Tryz.results37, go_sem, r0, r1, r2, r3]
end Go.Proofs.YtfmdmahlljbbmaaGreatDoor.vtc
