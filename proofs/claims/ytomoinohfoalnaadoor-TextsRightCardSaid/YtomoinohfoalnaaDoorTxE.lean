/- The program's clockAt: what a clock shows at a time. -/
import Derived.Test.YtomoinohfoalnaaDoorTxD
import Derived.Test.YtomoinohfoalnaaDoorTxK2
namespace Go.Proofs.YtomoinohfoalnaaDoor.txc
open Go.RowKit Go.Proofs.YtomoinohfoalnaaDoor.txm Go.Proofs.YtomoinohfoalnaaDoor.tlvc
set_option linter.unusedVariables false

def ints (c : List Int) : Array Value := (c.map (Value.int .i64)).toArray
def clkV (sec : Int) : Value := .agg (ints (clk sec))

theorem mons_at (l : Int) {k : Nat} (h : k < 12) (w : World) : (Instr.index 96 (monsV l) (.int .i64 k)).run Tryd.prog w = .ok (.int .i64 (mon l k)) w := by
  rcases twelve h with rfl | rfl | rfl | rfl | rfl | rfl | rfl | rfl | rfl | rfl | rfl | rfl <;> kernel_rfl

set_option maxRecDepth 100000 in
set_option maxHeartbeats 1000000 in
theorem clockAt_any (sec : Int) (w : World) (h : InR sec) :
    Calls Tryd.prog 44 #[.int .i64 sec] w fun e w' => e = .returned (clkV sec) ∧ Below w.heap.size w w' := by
  obtain ⟨S, hS⟩ : ∃ S, sec + 631152000 = S := ⟨_, rfl⟩
  have hb := dayOf_bd h
  have hday : dayOf sec = S / 86400 := by unfold dayOf; rw [hS]
  rw [hday] at hb
  obtain ⟨hb0, hb1⟩ := hb
  have hS0 : 0 ≤ S := by unfold InR at h; omega
  have hS1 : S ≤ 254033452799 := by unfold InR at h; omega
  have hg := dto_guess hb0
  have hgb := guess_bd hb0 hb1
  obtain ⟨hgb0, hgb1⟩ := hgb
  obtain ⟨Y, hY⟩ : ∃ Y, yOf sec = Y := ⟨_, rfl⟩
  obtain ⟨R, hR⟩ : ∃ R, rOf sec = R := ⟨_, rfl⟩
  obtain ⟨M, hM⟩ : ∃ M, mOf sec = M := ⟨_, rfl⟩
  have hl := lp_y h
  have hr := r_bd h
  have huniq : ∀ y, 1 ≤ y → dto y ≤ S / 86400 → S / 86400 < dto (y + 1) → y = Y := fun y h1 h2 h3 => by rw [← hY]; unfold yOf; rw [hday]; exact yearOf_uniq hb0 hb1 h1 h2 h3
  have hRd : R = S / 86400 - dto Y := by rw [← hR, ← hY]; unfold rOf; rw [hday]
  rw [hY] at hl hr
  rw [hR] at hr
  have hmu : ∀ i : Nat, i < 12 → cum (lp Y) i ≤ R → R < cum (lp Y) (i + 1) → i = M := fun i h1 h2 h3 => by
    rw [← hM]; unfold mOf; rw [hY, hR]; exact monOf_uniq hl.1 hl.2 hr.1 hr.2 h1 h2 h3
  have hyb := y_spec h
  rw [hY] at hyb
  obtain ⟨_, _, hy0, hy1⟩ := hyb
  have hclk : clkV sec = .agg #[.int .i64 (Y / 100), .int .i64 (Y % 100), .int .i64 ((M : Int) + 1), .int .i64 (R - cum (lp Y) M + 1), .int .i64 (S / 60 / 60 % 24), .int .i64 (S / 60 % 60), .int .i64 (S % 60)] := by
    simp only [clkV, clk, ints, hY, hR, hM, hS, List.map_cons, List.map_nil]
  rw [hclk]
  have HU := Lib.hid huniq
  have HM := Lib.hid hmu
  have HR := Lib.hid hRd
  clear huniq hmu hRd hclk hY hR hM hday
  obtain ⟨hl0, hl1⟩ := hl
  obtain ⟨hr0, hr1⟩ := hr
  have hdy := dto_bd (y := Y) (by omega) (by omega)
  obtain ⟨hdy0, hdy1⟩ := hdy
  obtain ⟨L, hL⟩ : ∃ L, lp Y = L := ⟨_, rfl⟩
  rw [hL] at HM hl0 hl1 hr1
  have HL := Lib.hid hL
  rw [hL]
  clear hL
  go_enter Tryd.func44, Tryd.ntmps44
  go_wp2_with fail
  go_loop [6] (fun t => ∃ y : Int, 1950 ≤ y ∧ y ≤ 9999 ∧ dto y ≤ S / 86400 ∧ t = .int .i64 y) (fun t => (9999 - intOf t).toNat)
  case atStart => exact ⟨_, hgb0, hgb1, hg, rfl⟩
  case round =>
    obtain ⟨y, hy1, hy2, hy3, rfl⟩ := hrel
    clear hg hgb0 hgb1
    by_cases hc : dto (y + 1) ≤ S / 86400
    · have hlt : y < 9999 := by
        rcases Int.lt_or_le y 9999 with h | h
        · exact h
        · have : y = 9999 := by omega
          subst this
          have := dto_10000
          have e : (9999 : Int) + 1 = 10000 := by decide
          rw [e] at hc
          omega
      go_wp2_with fail
      refine (daysTo_any _ _ (by omega) (by omega)).mono ?_
      rintro e w' ⟨rfl, rfl⟩
      go_wp2_with fail
      go_round
      case rel => exact ⟨y + 1, by omega, by omega, hc, rfl⟩
      case measure => simp [intOf]; omega
    · obtain rfl : Y = y := (HU.out y (by omega) hy3 (by omega)).symm
      go_wp2_with fail
      refine (daysTo_any _ _ (by omega) (by omega)).mono ?_
      rintro e w' ⟨rfl, rfl⟩
      go_wp2_with fail
      refine (daysTo_any _ _ (by omega) (by omega)).mono ?_
      rintro e w' ⟨rfl, rfl⟩
      have hR' := HR.out.symm
      go_wp2_with fail
      clear hR'
      refine (monthsOf_any _ _ (by omega) (by omega)).mono ?_
      rw [HL.out]
      rintro e w1 ⟨rfl, hbw⟩
      have hB : Below w.heap.size w w1 := ((Below.refl _ _).alloc (Nat.le_refl _) _).trans (hbw.mono (by simp))
      obtain ⟨hc1, hf1⟩ := bcell hbw
      have hz : w.heap.size + 1 ≤ w1.heap.size := by have := hbw.size; simp at this; omega
      have k0 : w1.heap[w.heap.size]? = some (.cells #[.int .i64 0, .int .i64 0, .int .i64 0, .int .i64 0, .int .i64 0, .int .i64 0, .int .i64 0] 72) := by
        rw [hbw.block _ (by simp)]; exact heap_new _ _
      clear hbw
      go_wp2_with fail
      go_loop [5, 7, 9, 32] (fun t5 t7 t9 t32 => ∃ k : Nat, k < 12 ∧ 0 ≤ R - cum L k ∧ t5 = .int .i64 (R - cum L k) ∧ t7 = .int .i64 (k + 1) ∧ t32 = .int .i64 k) (fun _ _ _ t32 => 12 - (intOf t32).toNat)
      case atStart => exact ⟨0, by omega, by simp [cum]; omega, by simp [cum], rfl, rfl⟩
      case round =>
        obtain ⟨k, hk, hk0, rfl, rfl, rfl⟩ := hrel
        have hix := mons_at L hk
        have hcs := cum_step L hk
        have hcb := cum_bd hl0 hl1 k
        have hmb := mon_bd hl0 hl1 k
        obtain ⟨hcb0, hcb1⟩ := hcb
        obtain ⟨hmb0, hmb1⟩ := hmb
        by_cases hm : R - cum L k < mon L k
        · obtain rfl : k = M := HM.out k hk (by omega) (by omega)
          clear hcs
          go_wp2
          have hk7 := heap_set7 k0 (.int .i64 (Y / 100)) (.int .i64 (Y % 100)) (.int .i64 ((k : Int) + 1)) (.int .i64 (R - cum L k + 1)) (.int .i64 (S / 60 / 60 % 24)) (.int .i64 (S / 60 % 60)) (.int .i64 (S % 60))
          refine bodyPost_ret (v := .agg #[.int .i64 (Y / 100), .int .i64 (Y % 100), .int .i64 ((k : Int) + 1), .int .i64 (R - cum L k + 1), .int .i64 (S / 60 / 60 % 24), .int .i64 (S / 60 % 60), .int .i64 (S % 60)]) ?_ rfl ⟨rfl, below_set7 hB (Nat.le_refl _) _ _ _ _ _ _ _⟩
          generalize ((((((w1.setCell ⟨w.heap.size, 0, none⟩ (.int .i64 (Y / 100))).setCell ⟨w.heap.size, 1, none⟩ (.int .i64 (Y % 100))).setCell ⟨w.heap.size, 2, none⟩ (.int .i64 ((k : Int) + 1))).setCell ⟨w.heap.size, 3, none⟩ (.int .i64 (R - cum L k + 1))).setCell ⟨w.heap.size, 4, none⟩ (.int .i64 (S / 60 / 60 % 24))).setCell ⟨w.heap.size, 5, none⟩ (.int .i64 (S / 60 % 60))).setCell ⟨w.heap.size, 6, none⟩ (.int .i64 (S % 60)) = w9 at hk7 ⊢
          have hce : ∀ j, w9.cell? ⟨w.heap.size, j, none⟩ = _ := fun j => Lib.cell_of_heap hk7 j
          simp [results, Tryd.results44, go_sem, hce]
        · have hk2 : k + 1 < 12 := by
            rcases Nat.lt_or_ge (k + 1) 12 with h | h
            · exact h
            · have e : k = 11 := by omega
              subst e
              have : cum L (11 + 1) = 365 + L := rfl
              omega
          have hcs' : R - cum L k - mon L k = R - cum L (k + 1) := by omega
          have hp : 0 ≤ R - cum L (k + 1) := by omega
          have HC := Lib.hid hcs'
          clear hcs hcs'
          go_wp2
          go_round
          case rel => exact ⟨k + 1, hk2, hp, by rw [HC.out], by go_num, by go_num⟩
          case measure => simp [intOf]; omega
end Go.Proofs.YtomoinohfoalnaaDoor.txc
