/- Term: the term of a number. -/
import Derived.Test.YtfmdmahlljbbmaaGreatDoorVl
import Derived.Test.YtfmdmahlljbbmaaGreatDoorTi
namespace Go.Proofs.YtfmdmahlljbbmaaGreatDoor.vtc
open Go.RowKit Go.Proofs.YtfmdmahlljbbmaaGreatDoor.tlvc Go.Proofs.YtfmdmahlljbbmaaGreatDoor.tmc
set_option linter.unusedVariables false
def TermPost (w : World) (t : Tm) (is : Bool) (e : Ending) (w' : World) : Prop := ∃ v, e = .returned (.tuple #[v, .bool is]) ∧ TmV (fun g => w.heap.size ≤ g) w' t v ∧ Below w.heap.size w w'
set_option maxRecDepth 100000 in
set_option maxHeartbeats 4000000 in
theorem term_no (S : Nat → Prop) (vb mb : Nat) (ob : Option Nat) (L : List Tm) (n : Int) (w : World) (hV : Vlt S w vb mb ob L) (hn : n < 0 ∨ (L.length : Int) ≤ n) :
    Calls Tryz.prog 54 #[.pointer (some ⟨vb, 0, none⟩), .int .i64 n] w (TermPost w (.mk 0 0 [] []) false) := by
  obtain ⟨W0, hW0⟩ : ∃ x, w.alloc (.cells #[.int .i64 0, .int .i64 0, .slice none 0 0, .slice none 0 0] 57) = x := ⟨_, rfl⟩
  have hb0 : Below w.heap.size w W0 := by rw [← hW0]; exact below_new _ _
  have p0 : W0.heap[w.heap.size]? = some (.cells #[.int .i64 0, .int .i64 0, .slice none 0 0, .slice none 0 0] 57) := by rw [← hW0]; exact heap_new_ _ _
  have hV0 := hV.below hb0
  obtain ⟨A9, c9, x0, _⟩ := hV0.cells
  have f := fun i => Lib.frozen_of_heap p0 i
  have f0 := f 0
  have f1 := f 1
  have f2 := f 2
  have f3 := f 3
  have t0 : W0.cell? ⟨w.heap.size, 0, none⟩ = some (.int .i64 0) := (Lib.cell_of_heap p0 _).trans rfl
  have t1 : W0.cell? ⟨w.heap.size, 1, none⟩ = some (.int .i64 0) := (Lib.cell_of_heap p0 _).trans rfl
  have t2 : W0.cell? ⟨w.heap.size, 2, none⟩ = some (.slice none 0 0) := (Lib.cell_of_heap p0 _).trans rfl
  have t3 : W0.cell? ⟨w.heap.size, 3, none⟩ = some (.slice none 0 0) := (Lib.cell_of_heap p0 _).trans rfl
  obtain ⟨r0, r1, r2, r3, hB, hT⟩ := res_end2 (w := w) (W := W0) (b := w.heap.size) (S := fun _ => False) (Nat.le_refl _) hb0 p0 (fun g hg => hg.elim) (nil_tm (fun _ => False) W0)
  have HE := Lib.hid (And.intro hB (TmV.mono hT (B' := fun g => w.heap.size ≤ g) (fun g hg => hg.elim)))
  obtain ⟨l, hl⟩ : ∃ x, L.length = x := ⟨_, rfl⟩
  rw [hl] at hn x0
  clear hB hT hV hV0 p0 hb0 f hl
  rcases hn with h | h
  · go_enter Tryz.func54, Tryz.ntmps54
    go_wp2_with fail
    refine bodyPost_ret (v := .tuple #[.agg #[.int .i64 0, .int .i64 0, .slice none 0 0, .slice none 0 0], .bool false]) ?_ rfl ⟨_, rfl, HE.out.2, HE.out.1⟩
    simp [results, Tryz.results54, go_sem, r0, r1, r2, r3]
  · have h0 : ¬ n < 0 := by omega
    go_enter Tryz.func54, Tryz.ntmps54
    go_wp2_with fail
    refine bodyPost_ret (v := .tuple #[.agg #[.int .i64 0, .int .i64 0, .slice none 0 0, .slice none 0 0], .bool false]) ?_ rfl ⟨_, rfl, HE.out.2, HE.out.1⟩
    simp [results, Tryz.results54, go_sem, r0, r1, r2, r3]
/-- A term's data, where they lie. -/
theorem data_of {B : Nat → Prop} {w : World} {t : Tm} {y0 y1 y3 : Value} {A : Option Addr} {la ca : Nat} (hy : TmC B w t y0 y1 (.slice A la ca) y3) : ∃ d, Bys w A la d ∧ la ≤ ca ∧ ca ≤ maxLen ∧ (0 < la → ∀ g off sp, A = some ⟨g, off, sp⟩ → B g) := by
  obtain ⟨o, m, d, ks⟩ := t
  unfold TmC at hy
  obtain ⟨_, _, _, _, ⟨A', la', ca', e, h1, h2, h3, h4⟩, _⟩ := hy
  cases e
  exact ⟨d, h3, h1, h2, h4⟩
def TermPostF (w : World) (t : Tm) (is : Bool) (e : Ending) (w' : World) : Prop := ∃ v, e = .returned (.tuple #[v, .bool is]) ∧ TmV (fun g => w.heap.size ≤ g) w' t v ∧ Below w.heap.size w w' ∧ NFv w' v
set_option maxRecDepth 100000 in
set_option maxHeartbeats 4000000 in
theorem term_nf (S : Nat → Prop) (vb mb : Nat) (ob : Option Nat) (L : List Tm) (n : Nat) (t : Tm) (w : World) (hV : Vlt S w vb mb ob L) (hn : L[n]? = some t) (hsz : szT t ≤ 100000) :
    Calls Tryz.prog 54 #[.pointer (some ⟨vb, 0, none⟩), .int .i64 n] w (TermPostF w t true) := by
  have hnl := (List.getElem?_eq_some_iff.1 hn).1
  have hright := hV.right t (List.mem_of_getElem? hn)
  obtain ⟨W0, hW0⟩ : ∃ x, w.alloc (.cells #[.int .i64 0, .int .i64 0, .slice none 0 0, .slice none 0 0] 57) = x := ⟨_, rfl⟩
  have hb0 : Below w.heap.size w W0 := by rw [← hW0]; exact below_new _ _
  have p0 : W0.heap[w.heap.size]? = some (.cells #[.int .i64 0, .int .i64 0, .slice none 0 0, .slice none 0 0] 57) := by rw [← hW0]; exact heap_new_ _ _
  have hz0 : w.heap.size < W0.heap.size := (Array.getElem?_eq_some_iff.1 p0).1
  have hV0 := hV.below hb0
  obtain ⟨A9, c9, x0, x1, x2, x3, _, x4⟩ := hV0.at
  obtain ⟨g9, d0, d1, d2, d3, rfl, e0, e1, e2, e3, hd⟩ := x4 n t hn
  obtain ⟨to, tm, tA, tla, tca, tK, tlk, tck, q0, q1, q2, q3⟩ := hd.shape
  subst q0 q1 q2 q3
  have hnorm := norm_nf t hsz (right_fit _ t (Nat.le_refl _) 0 hright) _ _ W0 ⟨_, _, _, _, rfl, hd⟩
  rw [norm_right hright] at hnorm
  have HN := Lib.hid hnorm
  have HP := Lib.hid (And.intro p0 (And.intro hz0 hb0))
  obtain ⟨l, hl⟩ : ∃ x, L.length = x := ⟨_, rfl⟩
  rw [hl] at hnl x0 x2
  have hlz : (n : Int) < (l : Int) := by omega
  have h0z : ¬ (n : Int) < 0 := by omega
  have h1z : ¬ (l : Int) ≤ (n : Int) := by omega
  clear hV hV0 hn x4 hd hright hnorm hl x1 p0 hz0 hb0
  go_enter Tryz.func54, Tryz.ntmps54
  go_wp2_with (go_at_call 52; refine HN.out.mono ?_; rintro e w1 ⟨v1, rfl, hT1, hb1, hnf⟩; obtain ⟨y0, y1, y2, y3, rfl, hy⟩ := hT1; obtain ⟨o5, m5, A5, la5, ca5, K5, lk5, ck5, rfl, rfl, rfl, rfl⟩ := hy.shape; obtain ⟨dd, hdd, _, _, hdB⟩ := data_of hy; have HNF := Lib.hid (show NFv (set4 w1 w.heap.size 0 (.int .i64 o5) (.int .i64 m5) (.slice A5 la5 ca5) (.slice K5 lk5 ck5)) (.agg #[.int .i64 o5, .int .i64 m5, .slice A5 la5 ca5, .slice K5 lk5 ck5]) from NFv.mk ((hnf _ _ _ _ _ _ rfl).keep hdd fun hl g off sp e _ => set4_other _ _ _ _ _ _ _ _ (by have := hdB hl g off sp e; have := HP.out.2.1; omega))); clear hnf hdd hdB; have p1 := (hb1.block w.heap.size HP.out.2.1).trans HP.out.1; have f0 := Lib.frozen_of_heap p1 0; have f1 := Lib.frozen_of_heap p1 1; have f2 := Lib.frozen_of_heap p1 2; have f3 := Lib.frozen_of_heap p1 3; obtain ⟨s0, s1, s2, s3⟩ : w1.cell? ⟨w.heap.size, 0, none⟩ = some (.int .i64 0) ∧ w1.cell? ⟨w.heap.size, 1, none⟩ = some (.int .i64 0) ∧ w1.cell? ⟨w.heap.size, 2, none⟩ = some (.slice none 0 0) ∧ w1.cell? ⟨w.heap.size, 3, none⟩ = some (.slice none 0 0) := ⟨(Lib.cell_of_heap p1 _).trans rfl, (Lib.cell_of_heap p1 _).trans rfl, (Lib.cell_of_heap p1 _).trans rfl, (Lib.cell_of_heap p1 _).trans rfl⟩; obtain ⟨r0, r1, r2, r3, hB, hT⟩ := res_end2 (w := w) (W := w1) (b := w.heap.size) (S := fun g => W0.heap.size ≤ g) (Nat.le_refl _) (HP.out.2.2.trans (hb1.mono HP.out.2.2.size)) p1 (fun g hg => by have := HP.out.2.1; omega) hy; have HE := Lib.hid (And.intro hB (TmV.mono hT (B' := fun g => w.heap.size ≤ g) (fun g hg => by have := HP.out.2.1; omega))); clear hB hT hy hb1 p1)
  refine bodyPost_ret (v := .tuple #[.agg #[.int .i64 o5, .int .i64 m5, .slice A5 la5 ca5, .slice K5 lk5 ck5], .bool true]) ?_ rfl ⟨_, rfl, HE.out.2, HE.out.1, HNF.out⟩
  simp [results, Tryz.results54, go_sem, r0, r1, r2, r3]
theorem term_yes (S : Nat → Prop) (vb mb : Nat) (ob : Option Nat) (L : List Tm) (n : Nat) (t : Tm) (w : World) (hV : Vlt S w vb mb ob L) (hn : L[n]? = some t) (hsz : szT t ≤ 100000) :
    Calls Tryz.prog 54 #[.pointer (some ⟨vb, 0, none⟩), .int .i64 n] w (TermPost w t true) :=
  (term_nf S vb mb ob L n t w hV hn hsz).mono fun e w' ⟨v, h1, h2, h3, _⟩ => ⟨v, h1, h2, h3⟩
end Go.Proofs.YtfmdmahlljbbmaaGreatDoor.vtc
