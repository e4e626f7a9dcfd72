/- The document's parse: its first ways. -/
import Derived.Test.YtaafgohaikhekaaDoorNdPe
namespace Go.Proofs.YtaafgohaikhekaaDoor.ndc
open Go.RowKit Go.Proofs.YtaafgohaikhekaaDoor.tlvc Go.Proofs.YtaafgohaikhekaaDoor.tlvd Go.Proofs.YtaafgohaikhekaaDoor.txc
set_option linter.unusedVariables false
set_option linter.unusedSimpArgs false
/-- How the document's parse ends. -/
def DRPost (w : World) (r : RR) (e : Ending) (w' : World) : Prop :=
  Below w.heap.size w w' ∧ match r with
  | .bad a er => e = .returned (.tuple #[.agg #[.int .u8 0, .slice none 0 0, .slice none 0 0], .int .i64 a, .int .i64 er])
  | .ok n nx => ∃ v, e = .returned (.tuple #[v, .int .i64 nx, .int .i64 0]) ∧ NdV (fun g => w.heap.size ≤ g) w' n v
/-- A world that goes on from w, with the answer's box still empty. -/
structure Box0 (w wx : World) : Prop where
  bel : Below w.heap.size w wx
  res : wx.heap[w.heap.size]? = some (.cells #[.int .u8 0, .slice none 0 0, .slice none 0 0] 25)
theorem Box0.start (w : World) : Box0 w (w.alloc (.cells #[.int .u8 0, .slice none 0 0, .slice none 0 0] 25)) := ⟨below_new _ _, box_new _ _ _ _ _⟩
theorem Box0.size {w wx : World} (h : Box0 w wx) : w.heap.size < wx.heap.size := (Array.getElem?_eq_some_iff.1 h.res).1
theorem Box0.drewN {w wx : World} (h : Box0 w wx) (q : Nat) : Box0 w (wx.drewN q) := ⟨⟨h.bel.os, h.bel.tape, h.bel.output, h.bel.size, h.bel.block⟩, h.res⟩
theorem Box0.below {w wx wy : World} (h : Box0 w wx) (hb : Below wx.heap.size wx wy) : Box0 w wy := ⟨h.bel.trans (hb.mono h.bel.size), (hb.block _ h.size).trans h.res⟩
theorem Box0.cells {w wx : World} (h : Box0 w wx) : wx.cell? ⟨w.heap.size, 0, none⟩ = some (.int .u8 0) ∧ wx.cell? ⟨w.heap.size, 1, none⟩ = some (.slice none 0 0) ∧ wx.cell? ⟨w.heap.size, 2, none⟩ = some (.slice none 0 0) :=
  ⟨by rw [Lib.cell_of_heap h.res]; rfl, by rw [Lib.cell_of_heap h.res]; rfl, by rw [Lib.cell_of_heap h.res]; rfl⟩
theorem Box0.free {w wx : World} (h : Box0 w wx) : wx.frozen? ⟨w.heap.size, 0, none⟩ = false ∧ wx.frozen? ⟨w.heap.size, 1, none⟩ = false ∧ wx.frozen? ⟨w.heap.size, 2, none⟩ = false :=
  ⟨Lib.frozen_of_heap h.res _, Lib.frozen_of_heap h.res _, Lib.frozen_of_heap h.res _⟩
/-- The answer laid into its box. -/
theorem Box0.set {w wx : World} (h : Box0 w wx) (c0 c1 c2 : Value) :
    (((wx.setCell ⟨w.heap.size, 0, none⟩ c0).setCell ⟨w.heap.size, 1, none⟩ c1).setCell ⟨w.heap.size, 2, none⟩ c2).cell? ⟨w.heap.size, 0, none⟩ = some c0 ∧
    (((wx.setCell ⟨w.heap.size, 0, none⟩ c0).setCell ⟨w.heap.size, 1, none⟩ c1).setCell ⟨w.heap.size, 2, none⟩ c2).cell? ⟨w.heap.size, 1, none⟩ = some c1 ∧
    (((wx.setCell ⟨w.heap.size, 0, none⟩ c0).setCell ⟨w.heap.size, 1, none⟩ c1).setCell ⟨w.heap.size, 2, none⟩ c2).cell? ⟨w.heap.size, 2, none⟩ = some c2 ∧
    Below w.heap.size w (((wx.setCell ⟨w.heap.size, 0, none⟩ c0).setCell ⟨w.heap.size, 1, none⟩ c1).setCell ⟨w.heap.size, 2, none⟩ c2) := by
  obtain ⟨d0, d1, d2⟩ := h.cells
  obtain ⟨r0, r1, r2, hbl, _⟩ := three_set wx w.heap.size w.heap.size _ _ _ c0 c1 c2 (Nat.le_refl _) d0 d1 d2
  exact ⟨r0, r1, r2, h.bel.trans hbl⟩
/-- The bytes up to the end that is handed in. -/
theorem upto_head {w : World} {A : Option Addr} {n c en : Nat} {xs : List Int} (h : Bys w A n xs) (he : en ≤ n) : Bys w A en (xs.take en) := h.upto he
set_option maxRecDepth 100000 in
set_option maxHeartbeats 8000000 in
theorem parse_bad (d outer : Nat) (A : Option Addr) (n c en : Nat) (xs : List Int) (at_ : Nat) (w : World) (hx : Bys w A n xs) (hc : n ≤ c) (hm : c ≤ maxLen) (hat : at_ ≤ en) (hen : en ≤ n) (hh : (headF ((xs.take en).drop at_)).1 ≠ 0) :
    Calls Tryd.prog 23 #[.slice A n c, .int .i64 at_, .int .i64 en, .int .i64 outer] w (DRPost w (readF (d + 1) outer (xs.take en) at_)) := by
  have hr : readF (d + 1) outer (xs.take en) at_ = .bad at_ (headF ((xs.take en).drop at_)).1 := by
    show (if _ then _ else _) = _
    rw [if_pos hh]
  rw [hr]
  have hb0 := Box0.start w
  have hm9 : c ≤ 9223372036854775807 := by unfold maxLen at hm; omega
  have hhd := head_of ref_ways A en c (xs.take en) at_ (w.alloc (.cells #[.int .u8 0, .slice none 0 0, .slice none 0 0] 25)) ((hx.below hb0.bel).upto hen) (by omega) hm
  rw [head_at (by rw [List.length_take, hx.1]; omega)] at hhd
  unfold headR at hhd
  rw [if_neg hh] at hhd
  obtain ⟨er, her⟩ : ∃ x, (headF ((xs.take en).drop at_)).1 = x := ⟨_, rfl⟩
  rw [her] at hhd hh ⊢
  unfold No at hhd
  have HH := Lib.hid hhd
  have hne : (er == 0) = false := by simpa using hh
  have hez : (0 : Int) ≤ (en : Int) := by omega
  have hec : (en : Int) ≤ (c : Int) := by omega
  clear hhd her hr hx
  go_enter Tryd.func23, Tryd.ntmps23
  go_wp2_with fail
  refine HH.out.mono ?_
  rintro e w' ⟨rfl, q, rfl⟩
  have hb1 := hb0.drewN q
  obtain ⟨W1, hW1⟩ : ∃ x, (w.alloc (.cells #[.int .u8 0, .slice none 0 0, .slice none 0 0] 25)).drewN q = x := ⟨_, rfl⟩
  rw [hW1] at hb1 ⊢
  clear hW1 hb0 HH
  obtain ⟨d0, d1, d2⟩ := hb1.cells
  obtain ⟨g0, g1, g2⟩ := hb1.free
  obtain ⟨r0, r1, r2, hbl⟩ := hb1.set (.int .u8 0) (.slice none 0 0) (.slice none 0 0)
  have HE := Lib.hid hbl
  clear hb1 hbl
  go_wp2
  refine bodyPost_ret (v := .tuple #[.agg #[.int .u8 0, .slice none 0 0, .slice none 0 0], .int .i64 at_, .int .i64 er]) ?_ rfl ⟨HE.out, rfl⟩
  simp [results, Tryd.results23, go_sem, r0, r1, r2]
set_option maxRecDepth 100000 in
set_option maxHeartbeats 8000000 in
theorem parse_own (d outer : Nat) (A : Option Addr) (n c en : Nat) (xs : List Int) (at_ F T : Nat) (t : Int) (w : World) (hx : Bys w A n xs) (hc : n ≤ c) (hm : c ≤ maxLen) (hen : en ≤ n) (hs : Spot (xs.take en) at_ t F T) (ho : 32 ≤ outer ∨ tagF t ≠ 0) :
    Calls Tryd.prog 23 #[.slice A n c, .int .i64 at_, .int .i64 en, .int .i64 outer] w (DRPost w (.bad at_ (if 32 ≤ outer then 41 else tagF t))) := by
  have hb0 := Box0.start w
  have hm9 : c ≤ 9223372036854775807 := by unfold maxLen at hm; omega
  have hhd := head_of ref_ways A en c (xs.take en) at_ (w.alloc (.cells #[.int .u8 0, .slice none 0 0, .slice none 0 0] 25)) ((hx.below hb0.bel).upto hen) (by omega) hm
  rw [head_spot hs] at hhd
  unfold Yes at hhd
  have htg := fun W => refTag_any t W hs.tag
  obtain ⟨tg, htv⟩ : ∃ x, tagF t = x := ⟨_, rfl⟩
  rw [htv] at htg ho ⊢
  have HH := Lib.hid hhd
  have HTG := Lib.hid htg
  have hez : (0 : Int) ≤ (en : Int) := by omega
  have hec : (en : Int) ≤ (c : Int) := by omega
  clear hhd hx htg htv hs
  by_cases h32 : 32 ≤ outer
  · have hz : (32 : Int) ≤ (outer : Int) := by omega
    rw [if_pos h32]
    go_enter Tryd.func23, Tryd.ntmps23
    go_wp2_with fail
    refine HH.out.mono ?_
    rintro e w' ⟨rfl, q, rfl⟩
    have hb1 := hb0.drewN q
    obtain ⟨W1, hW1⟩ : ∃ x, (w.alloc (.cells #[.int .u8 0, .slice none 0 0, .slice none 0 0] 25)).drewN q = x := ⟨_, rfl⟩
    rw [hW1] at hb1 ⊢
    clear hW1 hb0 HH
    obtain ⟨d0, d1, d2⟩ := hb1.cells
    obtain ⟨g0, g1, g2⟩ := hb1.free
    obtain ⟨r0, r1, r2, hbl⟩ := hb1.set (.int .u8 0) (.slice none 0 0) (.slice none 0 0)
    have HE := Lib.hid hbl
    clear hb1 hbl
    go_wp2
    refine bodyPost_ret (v := .tuple #[.agg #[.int .u8 0, .slice none 0 0, .slice none 0 0], .int .i64 at_, .int .i64 41]) ?_ rfl ⟨HE.out, rfl⟩
    simp [results, Tryd.results23, go_sem, r0, r1, r2]
  · have hz : ¬ (32 : Int) ≤ (outer : Int) := by omega
    have htg0 : (tg == 0) = false := by rcases ho with h | h; exact absurd h h32; simpa using h
    rw [if_neg h32]
    go_enter Tryd.func23, Tryd.ntmps23
    go_wp2_with fail
    refine HH.out.mono ?_
    rintro e w' ⟨rfl, q, rfl⟩
    have hb1 := hb0.drewN q
    obtain ⟨W1, hW1⟩ : ∃ x, (w.alloc (.cells #[.int .u8 0, .slice none 0 0, .slice none 0 0] 25)).drewN q = x := ⟨_, rfl⟩
    rw [hW1] at hb1 ⊢
    clear hW1 hb0 HH
    go_wp2_with fail
    refine (HTG.out _).mono ?_
    rintro e w1 ⟨rfl, rfl⟩
    obtain ⟨d0, d1, d2⟩ := hb1.cells
    obtain ⟨g0, g1, g2⟩ := hb1.free
    obtain ⟨r0, r1, r2, hbl⟩ := hb1.set (.int .u8 0) (.slice none 0 0) (.slice none 0 0)
    have HE := Lib.hid hbl
    clear hb1 hbl HTG
    go_wp2
    refine bodyPost_ret (v := .tuple #[.agg #[.int .u8 0, .slice none 0 0, .slice none 0 0], .int .i64 at_, .int .i64 tg]) ?_ rfl ⟨HE.out, rfl⟩
    simp [results, Tryd.results23, go_sem, r0, r1, r2]
end Go.Proofs.YtaafgohaikhekaaDoor.ndc
