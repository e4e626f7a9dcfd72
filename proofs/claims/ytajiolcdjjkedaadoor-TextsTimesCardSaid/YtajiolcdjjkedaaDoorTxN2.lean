/- The program's time of a clock, and Time. -/
import Derived.Test.YtajiolcdjjkedaaDoorTxN
import Derived.Test.YtajiolcdjjkedaaDoorTxG
import Derived.BigQuiet
import Derived.Deep.QuietTactic
namespace Go.Proofs.YtajiolcdjjkedaaDoor.txc
open Go.RowKit Go.Proofs.YtajiolcdjjkedaaDoor.txm Go.Proofs.YtajiolcdjjkedaaDoor.tlvc
set_option linter.unusedVariables false

theorem mIx_step (m : Int) (k : Nat) : min (m - 1).toNat (k + 1) = if (k : Int) + 1 < m then k + 1 else min (m - 1).toNat k := by split <;> omega
theorem mIx_at (m : Int) (k : Nat) (h : (k : Int) + 1 < m) : min (m - 1).toNat k = k := by omega

theorem daysTo_same (y D : Int) (w : World) (h : 0 ≤ y) (h2 : y ≤ 1000000) (hD : Hid (dto y = D)) :
    Calls Tryd.prog 49 #[.int .i64 y] w fun e w' => e = .returned (.int .i64 D) ∧ w' = w :=
  (daysTo_any y w h h2).mono fun e w' hh => ⟨by rw [← hD.out]; exact hh.1, hh.2.symm⟩
set_option maxRecDepth 100000 in
set_option maxHeartbeats 2000000 in
theorem time_any (c0 c1 c2 c3 c4 c5 c6 : Int) (w : World) (h0 : 0 ≤ c0 ∧ c0 ≤ 2805) (h1 : 0 ≤ c1 ∧ c1 ≤ 2805) (h2 : 0 ≤ c2 ∧ c2 ≤ 2805) (h3 : 0 ≤ c3 ∧ c3 ≤ 2805) (h4 : 0 ≤ c4 ∧ c4 ≤ 2805) (h5 : 0 ≤ c5 ∧ c5 ≤ 2805) (h6 : 0 ≤ c6 ∧ c6 ≤ 2805) :
    Calls Tryd.prog 42 #[.agg #[.int .i64 c0, .int .i64 c1, .int .i64 c2, .int .i64 c3, .int .i64 c4, .int .i64 c5, .int .i64 c6]] w fun e w' => e = .returned (.int .i64 (secAt (100 * c0 + c1) c2 c3 c4 c5 c6)) ∧ Below w.heap.size w w' := by
  obtain ⟨h0, h0'⟩ := h0
  obtain ⟨h1, h1'⟩ := h1
  obtain ⟨h2, h2'⟩ := h2
  obtain ⟨h3, h3'⟩ := h3
  obtain ⟨h4, h4'⟩ := h4
  obtain ⟨h5, h5'⟩ := h5
  obtain ⟨h6, h6'⟩ := h6
  obtain ⟨Y, hY⟩ : ∃ Y, 100 * c0 + c1 = Y := ⟨_, rfl⟩
  have hy0 : 0 ≤ Y := by omega
  have hy1 : Y ≤ 283305 := by omega
  have hy2 : Y ≤ 1000000 := by omega
  have hd := dto_bd hy0 (by omega)
  have hl := lp_01 hy0
  obtain ⟨Dt, hDt⟩ : ∃ D, dto Y = D := ⟨_, rfl⟩
  obtain ⟨L, hL⟩ : ∃ L, lp Y = L := ⟨_, rfl⟩
  rw [hDt] at hd
  rw [hL] at hl
  obtain ⟨hd0, hd1⟩ := hd
  obtain ⟨hl0, hl1⟩ := hl
  have hres : secAt Y c2 c3 c4 c5 c6 = -631152000 + (((Dt + c3 - 1 + cum L (mIx c2)) * 24 + c4) * 60 + c5) * 60 + c6 := by unfold secAt daysAt; rw [hDt, hL]
  have hcb := cum_bd hl0 hl1 (mIx c2)
  obtain ⟨hcb0, hcb1⟩ := hcb
  obtain ⟨RS, hRS⟩ : ∃ RS, secAt (100 * c0 + c1) c2 c3 c4 c5 c6 = RS := ⟨_, rfl⟩
  rw [hRS]
  rw [hY, hres] at hRS
  have HRS := Lib.hid hRS
  have HD := Lib.hid hDt
  have HL := Lib.hid hL
  clear hRS hres hDt hL
  go_enter Tryd.func42, Tryd.ntmps42
  go_wp2_with fail
  have hbw : Below w.heap.size w (w.alloc (.cells #[.int .i64 c0, .int .i64 c1, .int .i64 c2, .int .i64 c3, .int .i64 c4, .int .i64 c5, .int .i64 c6] 58)) := (Below.refl _ _).alloc (Nat.le_refl _) _
  have q0 := heap_new w (.cells #[.int .i64 c0, .int .i64 c1, .int .i64 c2, .int .i64 c3, .int .i64 c4, .int .i64 c5, .int .i64 c6] 58)
  obtain ⟨wb, hwb⟩ : ∃ wb, w.alloc (.cells #[.int .i64 c0, .int .i64 c1, .int .i64 c2, .int .i64 c3, .int .i64 c4, .int .i64 c5, .int .i64 c6] 58) = wb := ⟨_, rfl⟩
  rw [hwb] at q0 hbw ⊢
  clear hwb
  have hcell : ∀ wx : World, Below wb.heap.size wb wx → wx.heap[w.heap.size]? = some (.cells #[.int .i64 c0, .int .i64 c1, .int .i64 c2, .int .i64 c3, .int .i64 c4, .int .i64 c5, .int .i64 c6] 58) := fun wx h => by
    rw [h.block _ (Array.getElem?_eq_some_iff.1 q0).1]; exact q0
  have d2 : wb.cell? ⟨w.heap.size, 2, none⟩ = some (.int .i64 c2) := by rw [Lib.cell_of_heap q0]; rfl
  have d3 : wb.cell? ⟨w.heap.size, 3, none⟩ = some (.int .i64 c3) := by rw [Lib.cell_of_heap q0]; rfl
  have HCE := Lib.hid hcell
  clear hcell q0
  have hw0 : IntKind.i64.wrap (Dt + c3) = Dt + c3 := IntWalk.i64_in _ (by omega)
  have hw1 : IntKind.i64.wrap (Dt + c3 - 1) = Dt + c3 - 1 := IntWalk.i64_in _ (by omega)
  go_quiet ((go_at_call 49; exact Calls.quiet_of_same (daysTo_same Y Dt _ hy0 hy2 HD)))
  obtain ⟨D0, hD0⟩ : ∃ D0, Dt + c3 - 1 = D0 := ⟨_, rfl⟩
  rw [hD0] at hw1 HRS ⊢
  have hD0a : -712223 ≤ D0 := by omega
  have hD0b : D0 ≤ 364540832 := by omega
  clear hw0 hw1 hD0
  go_wp2_with fail
  refine (monthsOf_any _ _ hy0 (by omega)).mono ?_
  rw [HL.out]
  rintro e w1 ⟨rfl, hb1⟩
  have hb2 : Below wb.heap.size wb w1 := (below_drewN nq).trans (by simpa using hb1)
  have hB := hbw.trans (hb2.mono hbw.size)
  have q1 := HCE.out w1 hb2
  have d2 : w1.cell? ⟨w.heap.size, 2, none⟩ = some (.int .i64 c2) := by rw [Lib.cell_of_heap q1]; rfl
  have d4 : w1.cell? ⟨w.heap.size, 4, none⟩ = some (.int .i64 c4) := by rw [Lib.cell_of_heap q1]; rfl
  have d5 : w1.cell? ⟨w.heap.size, 5, none⟩ = some (.int .i64 c5) := by rw [Lib.cell_of_heap q1]; rfl
  have d6 : w1.cell? ⟨w.heap.size, 6, none⟩ = some (.int .i64 c6) := by rw [Lib.cell_of_heap q1]; rfl
  clear hb1 hb2 q1 hbw d3
  go_wp2_with fail
  go_loop [4, 5, 6, 21] (fun t4 _ _ t21 => ∃ k : Nat, k ≤ 12 ∧ t21 = .int .i64 k ∧ t4 = .int .i64 (D0 + cum L (min (c2 - 1).toNat k))) (fun _ _ _ t21 => 13 - (intOf t21).toNat)
  case atStart => exact ⟨0, by omega, rfl, by simp [cum]⟩
  case round =>
    obtain ⟨k, hk, rfl, rfl⟩ := hrel
    have hst := mIx_step c2 k
    have hcb := cum_bd hl0 hl1 (min (c2 - 1).toNat k)
    by_cases hlt : k < 12
    · have hix := mons_at L hlt
      have hmb := mon_bd hl0 hl1 k
      have hcs := cum_step L hlt
      obtain ⟨hmb0, hmb1⟩ := hmb
      by_cases hc : (k : Int) + 1 < c2
      · rw [if_pos hc] at hst
        have hat := mIx_at c2 k hc
        rw [hat] at hcb ⊢
        have hnx : D0 + cum L (min (c2 - 1).toNat (k + 1)) = D0 + cum L k + mon L k := by rw [hst, hcs]; omega
        have HN := Lib.hid hnx
        clear hst hat hcs hnx
        obtain ⟨hcb0, hcb1⟩ := hcb
        go_wp2
        go_round
        case rel => exact ⟨k + 1, by omega, by go_num, by rw [HN.out]⟩
        case measure => simp [intOf]; omega
      · rw [if_neg hc] at hst
        have HN := Lib.hid hst
        clear hst hcs
        obtain ⟨hcb0, hcb1⟩ := hcb
        go_wp2
        go_round
        case rel => exact ⟨k + 1, by omega, by go_num, by rw [HN.out]⟩
        case measure => simp [intOf]; omega
    · have hk12 : k = 12 := by omega
      have hcb := cum_bd hl0 hl1 (mIx c2)
      obtain ⟨E, hE⟩ : ∃ E, D0 + cum L (mIx c2) = E := ⟨_, rfl⟩
      have hEk : D0 + cum L (min (c2 - 1).toNat k) = E := by rw [hk12]; exact hE
      rw [hE] at HRS
      rw [hEk]
      have hE0 : -712223 ≤ E := by omega
      have hE1 : E ≤ 364541198 := by omega
      have HK := Lib.hid hk12
      clear hk12 hE hEk hst hcb
      go_wp2
      go_ret
      exact ⟨ret_i64 HRS.out, hB⟩
end Go.Proofs.YtajiolcdjjkedaaDoor.txc
