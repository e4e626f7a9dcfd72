/- The document's Same and Pow. -/
import Derived.Test.YtlnclgpbobaedaaDoorTmU
namespace Go.Proofs.YtlnclgpbobaedaaDoor.tmc
open Go.RowKit Go.Proofs.YtlnclgpbobaedaaDoor.tlvc
set_option linter.unusedVariables false
theorem rorder_same (n : Tm) (C1 C2 : Nat → Prop) (v u : Value) (w : World) (h : TmV C1 w n v) (k : TmV C2 w n u) : Calls Tryd.prog 37 #[v, u] w fun e w' => e = .returned (.int .i64 0) ∧ Below w.heap.size w w' := by
  have := rorder_any n n C1 C2 v u w h k
  rwa [ordT_refl] at this
set_option maxRecDepth 100000 in
theorem same_self (n : Tm) (C1 C2 : Nat → Prop) (v u : Value) (w : World) (h : TmV C1 w n v) (k : TmV C2 w n u) : Calls Tryd.prog 19 #[v, u] w fun e w' => e = .returned (.bool true) ∧ Below w.heap.size w w' := by
  obtain ⟨c0, c1, c2, c3, rfl, hc⟩ := h
  obtain ⟨e0, e1, e2, e3, rfl, he⟩ := k
  obtain ⟨oo, mm, A, la, ca, K, lk, ck, rfl, rfl, rfl, rfl⟩ := hc.shape
  obtain ⟨oo', mm', A', la', ca', K', lk', ck', rfl, rfl, rfl, rfl⟩ := he.shape
  obtain ⟨W0, hW0⟩ : ∃ y, (w.alloc (.cells #[.int .i64 oo, .int .i64 mm, .slice A la ca, .slice K lk ck] 26)).alloc (.cells #[.int .i64 oo', .int .i64 mm', .slice A' la' ca', .slice K' lk' ck'] 26) = y := ⟨_, rfl⟩
  have hb0 : Below w.heap.size w W0 := by rw [← hW0]; exact (below_new _ _).alloc (by simp) _
  have ho := rorder_same n C1 C2 (.agg #[.int .i64 oo, .int .i64 mm, .slice A la ca, .slice K lk ck]) (.agg #[.int .i64 oo', .int .i64 mm', .slice A' la' ca', .slice K' lk' ck']) W0 ⟨_, _, _, _, rfl, TmC.below hb0 _ _ _ _ _ hc⟩ ⟨_, _, _, _, rfl, TmC.below hb0 _ _ _ _ _ he⟩
  have HO := Lib.hid ho
  have HB := Lib.hid hb0
  have HW := Lib.hid hW0
  clear ho hb0 hc he hW0
  go_enter Tryd.func19, Tryd.ntmps19
  go_wp2_with fail
  rw [HW.out]
  refine HO.out.mono ?_
  rintro e w2 ⟨rfl, hb2⟩
  have hend := HB.out.trans (hb2.mono HB.out.size)
  clear HO HB hb2
  go_wp2
  go_ret
  exact ⟨rfl, hend⟩
theorem tmsb_of {B : Nat → Prop} {w : World} {o m : Int} {d : List Int} {ks : List Tm} {c0 c1 c2 : Value} {K : Option Addr} {lk ck : Nat} (h : TmC B w (.mk o m d ks) c0 c1 c2 (.slice K lk ck)) (hl : ks.length = lk) : TmsB B w K ks := by
  unfold TmC at h
  obtain ⟨_, _, _, _, _, K', ck', e, _, _, h3⟩ := h
  cases e
  exact h3
def RPowPost (w : World) (r : Option Tm) (e : Ending) (w' : World) : Prop := ∃ v', e = .returned (.tuple #[v', .bool r.isSome]) ∧ TmV (fun _ => True) w' (r.getD (.mk 0 0 [] [])) v' ∧ Below w.heap.size w w'
theorem res_end2 {w W : World} {b : Nat} {x0 x1 x2 x3 y0 y1 y2 y3 : Value} {T : TypeId} {fr : Nat × Nat} {n : Tm} {S : Nat → Prop} (hb : w.heap.size ≤ b) (hB : Below w.heap.size w W) (hres : W.heap[b]? = some (.cells #[x0, x1, x2, x3] T fr)) (hS : ∀ g, S g → g ≠ b) (h : TmC S W n y0 y1 y2 y3) :
    ((((W.setCell ⟨b, 0, none⟩ y0).setCell ⟨b, 1, none⟩ y1).setCell ⟨b, 2, none⟩ y2).setCell ⟨b, 3, none⟩ y3).cell? ⟨b, 0, none⟩ = some y0 ∧ ((((W.setCell ⟨b, 0, none⟩ y0).setCell ⟨b, 1, none⟩ y1).setCell ⟨b, 2, none⟩ y2).setCell ⟨b, 3, none⟩ y3).cell? ⟨b, 1, none⟩ = some y1 ∧ ((((W.setCell ⟨b, 0, none⟩ y0).setCell ⟨b, 1, none⟩ y1).setCell ⟨b, 2, none⟩ y2).setCell ⟨b, 3, none⟩ y3).cell? ⟨b, 2, none⟩ = some y2 ∧ ((((W.setCell ⟨b, 0, none⟩ y0).setCell ⟨b, 1, none⟩ y1).setCell ⟨b, 2, none⟩ y2).setCell ⟨b, 3, none⟩ y3).cell? ⟨b, 3, none⟩ = some y3 ∧
      Below w.heap.size w ((((W.setCell ⟨b, 0, none⟩ y0).setCell ⟨b, 1, none⟩ y1).setCell ⟨b, 2, none⟩ y2).setCell ⟨b, 3, none⟩ y3) ∧ TmV S ((((W.setCell ⟨b, 0, none⟩ y0).setCell ⟨b, 1, none⟩ y1).setCell ⟨b, 2, none⟩ y2).setCell ⟨b, 3, none⟩ y3) n (.agg #[y0, y1, y2, y3]) := by
  have hbox := set4_box hres y0 y1 y2 y3
  refine ⟨(Lib.cell_of_heap (w := set4 W b 0 y0 y1 y2 y3) hbox _).trans rfl, (Lib.cell_of_heap (w := set4 W b 0 y0 y1 y2 y3) hbox _).trans rfl, (Lib.cell_of_heap (w := set4 W b 0 y0 y1 y2 y3) hbox _).trans rfl, (Lib.cell_of_heap (w := set4 W b 0 y0 y1 y2 y3) hbox _).trans rfl, hB.trans (set4_below W _ b 0 y0 y1 y2 y3 hb), y0, y1, y2, y3, rfl, ?_⟩
  have hst : Stays S W (set4 W b 0 y0 y1 y2 y3) := ⟨by rw [set4_size]; exact Nat.le_refl _, fun p hp _ => cell_same (set4_other _ _ _ _ _ _ _ _ (hS _ hp))⟩
  exact TmC.stays hst _ _ _ _ _ h
end Go.Proofs.YtlnclgpbobaedaaDoor.tmc
