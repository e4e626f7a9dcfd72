/- The program's months of a year. -/
import Derived.Test.YtomoinohfoalnaaDoorTxC
namespace Go.Proofs.YtomoinohfoalnaaDoor.txc
open Go.RowKit Go.Proofs.YtomoinohfoalnaaDoor.txm Go.Proofs.YtomoinohfoalnaaDoor.tlvc
set_option linter.unusedVariables false

theorem heap_at (w : World) (o : Obj) (k : Nat) (h : k = w.heap.size) : (w.alloc o).heap[k]? = some o := by subst h; exact heap_new w o
def monsV (l : Int) : Value := .agg #[.int .i64 31, .int .i64 (28 + l), .int .i64 31, .int .i64 30, .int .i64 31, .int .i64 30, .int .i64 31, .int .i64 31, .int .i64 30, .int .i64 31, .int .i64 30, .int .i64 31]

set_option maxRecDepth 100000 in
set_option maxHeartbeats 1000000 in
theorem monthsOf_any (y : Int) (w : World) (h : 0 ≤ y) (h2 : y ≤ 900000) :
    Calls Tryd.prog 62 #[.int .i64 y] w fun e w' => e = .returned (monsV (lp y)) ∧ Below w.heap.size w w' := by
  obtain ⟨L0, hL0⟩ : ∃ L, lpG y = L := ⟨_, rfl⟩
  obtain ⟨L1, hL1⟩ : ∃ L, lpG (y + 1) = L := ⟨_, rfl⟩
  have hb0 := lpG_bd h (by omega)
  have hb1 := lpG_bd (y := y + 1) (by omega) (by omega)
  have hl := lp_01 h
  have hlp : lp y = L1 - L0 := by unfold lp; rw [hL0, hL1]
  rw [hlp] at hl ⊢
  rw [hL0] at hb0
  rw [hL1] at hb1
  have H0 := Lib.hid hL0
  have H1 := Lib.hid hL1
  clear hL0 hL1 hlp
  obtain ⟨hb0, hb0'⟩ := hb0
  obtain ⟨hb1, hb1'⟩ := hb1
  obtain ⟨hl, hl'⟩ := hl
  go_enter Tryd.func62, Tryd.ntmps62
  go_wp2_with fail
  obtain ⟨W1, hW1⟩ : ∃ W1, (w.alloc (.cells #[.int .i64 0, .int .i64 0, .int .i64 0, .int .i64 0, .int .i64 0, .int .i64 0, .int .i64 0, .int .i64 0, .int .i64 0, .int .i64 0, .int .i64 0, .int .i64 0] 96)).alloc (.cells #[.int .i64 31, .int .i64 28, .int .i64 31, .int .i64 30, .int .i64 31, .int .i64 30, .int .i64 31, .int .i64 31, .int .i64 30, .int .i64 31, .int .i64 30, .int .i64 31] 96) = W1 := ⟨_, rfl⟩
  have k1 : W1.heap[w.heap.size + 1]? = some (.cells #[.int .i64 31, .int .i64 28, .int .i64 31, .int .i64 30, .int .i64 31, .int .i64 30, .int .i64 31, .int .i64 31, .int .i64 30, .int .i64 31, .int .i64 30, .int .i64 31] 96) := by rw [← hW1]; exact heap_at _ _ _ (by simp)
  have k0 : W1.heap[w.heap.size]? = some (.cells #[.int .i64 0, .int .i64 0, .int .i64 0, .int .i64 0, .int .i64 0, .int .i64 0, .int .i64 0, .int .i64 0, .int .i64 0, .int .i64 0, .int .i64 0, .int .i64 0] 96) := by rw [← hW1, heap_old _ _ (by simp)]; exact heap_new _ _
  have hz : W1.heap.size = w.heap.size + 2 := by rw [← hW1]; simp
  have hb : Below w.heap.size w W1 := by rw [← hW1]; exact ((Below.refl _ _).alloc (Nat.le_refl _) _).alloc (by simp) _
  rw [hW1]
  have hcl : W1.cell? ⟨w.heap.size + 1, 1, none⟩ = some (.int .i64 28) := by rw [Lib.cell_of_heap k1]; rfl
  have hw0 : IntKind.i64.wrap (y + 1) = y + 1 := IntWalk.i64_in _ (by omega)
  have hw1 : IntKind.i64.wrap (L1 - L0) = L1 - L0 := IntWalk.i64_in _ (by omega)
  have hw2 : IntKind.i64.wrap (28 + (L1 - L0)) = 28 + (L1 - L0) := IntWalk.i64_in _ (by omega)
  refine wp_region_still_tail 10 (by kernel_rfl) (by kernel_rfl) ?_
  simp only [List.take_succ_cons, List.take_zero, List.drop_succ_cons, List.drop_zero]
  repeat still_step
  still_call (leap_still _ _ _ (by omega) (by omega) H1)
  repeat still_step
  still_call (leap_still _ _ _ (by omega) (by omega) H0)
  repeat still_step
  refine wpStill_nil ?_
  change wpList _ _ _ _ _ W1.drew
  clear hcl k1 k0 hz hb
  subst hW1
  go_wp2
  exact bodyPost_ret (v := monsV (L1 - L0)) (by simp [results, Tryd.results62, go_sem, monsV]) rfl ⟨rfl, (((Below.refl _ _).alloc (Nat.le_refl _) _).alloc (by simp) _).drew⟩
end Go.Proofs.YtomoinohfoalnaaDoor.txc
