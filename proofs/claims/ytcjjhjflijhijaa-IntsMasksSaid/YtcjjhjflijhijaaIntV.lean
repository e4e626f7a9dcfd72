/- A mask's body: the program's PutBits. -/
import Derived.Test.YtcjjhjflijhijaaIntU
namespace Go.Proofs.Ytcjjhjflijhijaa.intc
open Go.RowKit Go.Proofs.Ytcjjhjflijhijaa.tlvc Go.Proofs.Ytcjjhjflijhijaa.intm
set_option linter.unusedVariables false

theorem putM_zero : putM 0 = [0] := rfl
theorem putM_low {m : Int} (h1 : 1 ≤ m) (h : m < 256) : putM m = [8 - lenB m, rv m] := by unfold putM; rw [if_neg (by omega), if_pos h]
theorem putM_high {m : Int} (h : 256 ≤ m) : putM m = [8 - lenB (m / 256), rv (m % 256), rv (m / 256)] := by unfold putM; rw [if_neg (by omega), if_neg (by omega)]

set_option maxRecDepth 100000 in
set_option maxHeartbeats 1000000 in
theorem putBits_any (m : Int) (w : World) (hm : U16 m) : Calls Try.prog 28 #[.int .u16 m] w (Made w (putM m)) := by
  obtain ⟨i0, hi0, hz0, hz1, hz2⟩ := info_parts Try.info5
  have hb : 0 ≤ m ∧ m ≤ 65535 := hm
  by_cases h0 : m = 0
  · subst h0
    rw [putM_zero]
    go_enter Try.func28, Try.ntmps28
    go_wp2
    go_ret
    exact ⟨_, _, rfl, here_new rfl (fit_one (by decide) (by decide)) rfl (by unfold maxLen; decide), (Below.refl _ _).alloc (Nat.le_refl _) _⟩
  have h0' : (m == 0) = false := by simpa using h0
  by_cases hlow : m < 256
  · rw [putM_low (by omega) hlow]
    have hL := lenB_bd (x := m) (by omega)
    have hl16 : len16 m = lenB m := by unfold len16; rw [if_pos hlow]
    obtain ⟨L, hLL⟩ : ∃ L, lenB m = L + 1 := ⟨lenB m - 1, by omega⟩
    rw [hLL] at hL hl16 ⊢
    have e8 : 8 - (L + 1) = 7 - L := by omega
    rw [e8]
    have h8 : L % 8 = L := by omega
    have h8' : L / 8 = 0 := by omega
    have hr := rv_bd m
    have HL16 := Lib.hid hl16
    have hown := own_one w (7 - L) (Nat.le_refl _)
    clear h0 hLL hl16 e8
    go_enter Try.func28, Try.ntmps28
    go_wp2_with fail
    refine (len16_any m _ hb.1 hb.2).mono ?_
    rw [HL16.out]
    rintro e w' ⟨rfl, rfl⟩
    go_wp2_with fail
    refine wp_loop_rounds 2 ?_
    rw [rounds_succ]
    go_wp2_with fail
    refine (rev8_any m _ hb.1 (by omega)).mono ?_
    rintro e w' ⟨rfl, rfl⟩
    go_wp2_with (at_builtin; refine wpl_app rfl (.tmp 23) (.tmp 30) 22 rfl w.heap.size 5 i0 (.int .u8 0) Try.underlying22 hi0 hz0 hz1 hz2 rfl (.slice (some ⟨w.heap.size, 0, none⟩) 1 1) 1 (vals [7 - L]) rfl (hown.alloc _) _ 1 1 [rv m] rfl (bys_new rfl (fit_one hr.1 hr.2) rfl (by simp)) (by omega) (by simp; omega) ?_; intro v' w2 ho2 hg2)
    rw [rounds_succ]
    go_wp2
    go_ret
    have hf : Fit [7 - L, rv m] := (fit_one (by omega) (by omega)).app (fit_one hr.1 hr.2)
    exact made_own (ys := [7 - L, rv m]) ho2 hf ((((Below.refl _ _).alloc (Nat.le_refl _) _).alloc (by simp) _).grown hg2 (by simp; omega) fun j hj => by cases hj; exact Nat.le_refl _)
  · rw [putM_high (by omega)]
    have hL := lenB_bd (x := m / 256) (by omega)
    have hl16 : len16 m = 8 + lenB (m / 256) := by unfold len16; rw [if_neg hlow]
    obtain ⟨L, hLL⟩ : ∃ L, lenB (m / 256) = L + 1 := ⟨lenB (m / 256) - 1, by omega⟩
    rw [hLL] at hL hl16 ⊢
    have e8 : 8 - (L + 1) = 7 - L := by omega
    have e9 : 8 + (L + 1) = 8 + L + 1 := by omega
    rw [e8]
    rw [e9] at hl16
    have h8 : (8 + L) % 8 = L := by omega
    have h8' : (8 + L) / 8 = 1 := by omega
    have hr := rv_bd (m % 256)
    have hr2 := rv_bd (m / 256)
    have HL16 := Lib.hid hl16
    have hown := own_one w (7 - L) (Nat.le_refl _)
    clear h0 hLL hl16 e8 e9
    go_enter Try.func28, Try.ntmps28
    go_wp2_with fail
    refine (len16_any m _ hb.1 hb.2).mono ?_
    rw [HL16.out]
    rintro e w' ⟨rfl, rfl⟩
    go_wp2_with fail
    refine wp_loop_rounds 3 ?_
    rw [rounds_succ]
    go_wp2_with fail
    refine (rev8_any (m % 256) _ (by omega) (by omega)).mono ?_
    rintro e w' ⟨rfl, rfl⟩
    go_wp2_with (at_builtin; refine wpl_app rfl (.tmp 23) (.tmp 30) 22 rfl w.heap.size 5 i0 (.int .u8 0) Try.underlying22 hi0 hz0 hz1 hz2 rfl (.slice (some ⟨w.heap.size, 0, none⟩) 1 1) 1 (vals [7 - L]) rfl (hown.alloc _) _ 1 1 [rv (m % 256)] rfl (bys_new rfl (fit_one hr.1 hr.2) rfl (by simp)) (by omega) (by simp; omega) ?_; intro v' w2 ho2 hg2)
    have hb2 : Below w.heap.size w w2 := (((Below.refl _ _).alloc (Nat.le_refl _) _).alloc (by simp) _).grown hg2 (by simp; omega) fun j hj => by cases hj; exact Nat.le_refl _
    clear hg2
    rw [rounds_succ]
    go_wp2_with fail
    refine (rev8_any (m / 256) _ (by omega) (by omega)).mono ?_
    rintro e w' ⟨rfl, rfl⟩
    go_wp2_with (at_builtin; refine wpl_app rfl (.tmp 23) (.tmp 30) 22 rfl w.heap.size 5 i0 (.int .u8 0) Try.underlying22 hi0 hz0 hz1 hz2 rfl v' _ _ rfl (ho2.alloc _) _ 1 1 [rv (m / 256)] rfl (bys_new rfl (fit_one hr2.1 hr2.2) rfl (by simp)) (by omega) (by have := hb2.size; simp; omega) ?_; intro v'' w3 ho3 hg3)
    rw [rounds_succ]
    go_wp2
    go_ret
    have hf : Fit [7 - L, rv (m % 256), rv (m / 256)] := (fit_one (by omega) (by omega)).app ((fit_one hr.1 hr.2).app (fit_one hr2.1 hr2.2))
    exact made_own (ys := [7 - L, rv (m % 256), rv (m / 256)]) ho3 hf ((hb2.alloc hb2.size _).grown hg3 (by have := hb2.size; simp; omega) fun j hj => (ho2.lt j hj).1)
end Go.Proofs.Ytcjjhjflijhijaa.intc
