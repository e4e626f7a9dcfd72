/- tlv.Head with a length of two and of three bytes. -/
import Derived.Test.YtpfdebelpfcofaaTlvG
namespace Go.Proofs.Ytpfdebelpfcofaa.tlvc
open Go.RowKit
set_option linter.unusedVariables false

set_option maxRecDepth 100000 in
set_option maxHeartbeats 400000 in
theorem head_m_cut (b off k m c : Nat) (t  : Int) (w : World) (hnc : k + m ≤ c) (hmax : k + m ≤ 9223372036854775807) (ht : endlessB t = false) (h0 : w.cell? ⟨b, off + k, none⟩ = some (.int .u8 t)) (h1 : w.cell? ⟨b, off + k + 1, none⟩ = some (.int .u8 129))
    (hm : m = 2) :
    Calls Try.prog 12 #[.slice (some ⟨b, off, none⟩) (k + m) c, .int .i64 k] w fun e w' => e = No 12 ∧ w = w' := by
  have hck : ¬ c = k := by omega
  subst hm
  go_enter Try.func12, Try.ntmps12
  go_wp2
  refine wp_scope_jumps 0 (HeadStop w 12) (fun _ _ => 0) rfl ?_ ?_
  · go_wp2_with (first | (go_at_call 14; refine (endless_any _ _).mono ?_; rintro e w' ⟨rfl, rfl⟩; rw [ht]) | (go_at_call 17; refine (fol_m 129 1 _ (by decide) (by decide) (by decide)).mono ?_; rintro e w' ⟨rfl, rfl⟩))
    go_step3
    exact ⟨rfl, rfl, rfl, rfl, rfl⟩
  · rintro ⟨tmps, defers⟩ w' ⟨rfl, rfl, hs, h7⟩
    go_wp2
    simp only [Exit.jump]
    refine bodyPost_ret (results_tmp4 rfl _ _ _) rfl ?_
    simp [hs, No]

set_option maxRecDepth 100000 in
set_option maxHeartbeats 400000 in
theorem head_m_long (b off k m c : Nat) (t x : Int) (w : World) (hnc : k + m ≤ c) (hmax : k + m ≤ 9223372036854775807) (ht : endlessB t = false) (h0 : w.cell? ⟨b, off + k, none⟩ = some (.int .u8 t)) (h1 : w.cell? ⟨b, off + k + 1, none⟩ = some (.int .u8 129))
    (hm : 3 ≤ m) (hx0 : 0 ≤ x) (hx1 : x ≤ 255) (hB : Bys w (some ⟨b, off + k + 1, none⟩) 2 [129, x]) (hx : x < 128) :
    Calls Try.prog 12 #[.slice (some ⟨b, off, none⟩) (k + m) c, .int .i64 k] w fun e w' => e = No 13 ∧ w = w' := by
  have hck : ¬ c = k := by omega
  have hw : widthN x = 1 := by simp [widthN, hx]
  go_enter Try.func12, Try.ntmps12
  go_wp2
  refine wp_scope_jumps 0 (HeadStop w 13) (fun _ _ => 0) rfl ?_ ?_
  · go_wp2_with (first | (go_at_call 14; refine (endless_any _ _).mono ?_; rintro e w' ⟨rfl, rfl⟩; rw [ht]) | (go_at_call 17; refine (fol_m 129 1 _ (by decide) (by decide) (by decide)).mono ?_; rintro e w' ⟨rfl, rfl⟩) | (go_at_call 18; refine (length_2 _ _ _ _ _ (by omega) hB).mono ?_; rintro e w' ⟨rfl, rfl⟩) | (go_at_call 15; refine (width_any _ _).mono ?_; rintro e w' ⟨rfl, rfl⟩; rw [hw]))
    go_step3
    exact ⟨rfl, rfl, rfl, rfl, rfl⟩
  · rintro ⟨tmps, defers⟩ w' ⟨rfl, rfl, hs, h7⟩
    go_wp2
    simp only [Exit.jump]
    refine bodyPost_ret (results_tmp4 rfl _ _ _) rfl ?_
    simp [hs, No]

set_option maxRecDepth 100000 in
set_option maxHeartbeats 400000 in
theorem head_m_no (b off k m c : Nat) (t x : Int) (w : World) (hnc : k + m ≤ c) (hmax : k + m ≤ 9223372036854775807) (ht : endlessB t = false) (h0 : w.cell? ⟨b, off + k, none⟩ = some (.int .u8 t)) (h1 : w.cell? ⟨b, off + k + 1, none⟩ = some (.int .u8 129))
    (hm : 3 ≤ m) (hx0 : 0 ≤ x) (hx1 : x ≤ 255) (hB : Bys w (some ⟨b, off + k + 1, none⟩) 2 [129, x]) (hx : 128 ≤ x) (hy : (m : Int) - 3 < x) :
    Calls Try.prog 12 #[.slice (some ⟨b, off, none⟩) (k + m) c, .int .i64 k] w fun e w' => e = No 12 ∧ w = w' := by
  have hck : ¬ c = k := by omega
  have hw : widthN x = 2 := by simp [widthN, hx1]; omega
  go_enter Try.func12, Try.ntmps12
  go_wp2
  refine wp_scope_jumps 0 (HeadStop w 12) (fun _ _ => 0) rfl ?_ ?_
  · go_wp2_with (first | (go_at_call 14; refine (endless_any _ _).mono ?_; rintro e w' ⟨rfl, rfl⟩; rw [ht]) | (go_at_call 17; refine (fol_m 129 1 _ (by decide) (by decide) (by decide)).mono ?_; rintro e w' ⟨rfl, rfl⟩) | (go_at_call 18; refine (length_2 _ _ _ _ _ (by omega) hB).mono ?_; rintro e w' ⟨rfl, rfl⟩) | (go_at_call 15; refine (width_any _ _).mono ?_; rintro e w' ⟨rfl, rfl⟩; rw [hw]))
    go_step3
    exact ⟨rfl, rfl, rfl, rfl, rfl⟩
  · rintro ⟨tmps, defers⟩ w' ⟨rfl, rfl, hs, h7⟩
    go_wp2
    simp only [Exit.jump]
    refine bodyPost_ret (results_tmp4 rfl _ _ _) rfl ?_
    simp [hs, No]

set_option maxRecDepth 100000 in
set_option maxHeartbeats 400000 in
theorem head_m_ok (b off k m c : Nat) (t x : Int) (w : World) (hnc : k + m ≤ c) (hmax : k + m ≤ 9223372036854775807) (ht : endlessB t = false) (h0 : w.cell? ⟨b, off + k, none⟩ = some (.int .u8 t)) (h1 : w.cell? ⟨b, off + k + 1, none⟩ = some (.int .u8 129))
    (hm : 3 ≤ m) (hx0 : 0 ≤ x) (hx1 : x ≤ 255) (hB : Bys w (some ⟨b, off + k + 1, none⟩) 2 [129, x]) (hx : 128 ≤ x) (hy : x ≤ (m : Int) - 3) :
    Calls Try.prog 12 #[.slice (some ⟨b, off, none⟩) (k + m) c, .int .i64 k] w fun e w' => e = Yes t (k + 3) (k + 3 + x) ∧ w = w' := by
  have hck : ¬ c = k := by omega
  have hw : widthN x = 2 := by simp [widthN, hx1]; omega
  go_enter Try.func12, Try.ntmps12
  go_wp2
  go_step3
  go_wp2_with (first | (go_at_call 14; refine (endless_any _ _).mono ?_; rintro e w' ⟨rfl, rfl⟩; rw [ht]) | (go_at_call 17; refine (fol_m 129 1 _ (by decide) (by decide) (by decide)).mono ?_; rintro e w' ⟨rfl, rfl⟩) | (go_at_call 18; refine (length_2 _ _ _ _ _ (by omega) hB).mono ?_; rintro e w' ⟨rfl, rfl⟩) | (go_at_call 15; refine (width_any _ _).mono ?_; rintro e w' ⟨rfl, rfl⟩; rw [hw]))
  rw [Exit.noGoto_ret]
  refine bodyPost_ret (results_tmp4 rfl _ _ _) rfl ?_
  exact ⟨rfl, rfl⟩

set_option maxRecDepth 100000 in
set_option maxHeartbeats 400000 in
theorem head_l_cut (b off k m c : Nat) (t  : Int) (w : World) (hnc : k + m ≤ c) (hmax : k + m ≤ 9223372036854775807) (ht : endlessB t = false) (h0 : w.cell? ⟨b, off + k, none⟩ = some (.int .u8 t)) (h1 : w.cell? ⟨b, off + k + 1, none⟩ = some (.int .u8 130))
    (hm0 : 2 ≤ m) (hm : m ≤ 3) :
    Calls Try.prog 12 #[.slice (some ⟨b, off, none⟩) (k + m) c, .int .i64 k] w fun e w' => e = No 12 ∧ w = w' := by
  have hck : ¬ c = k := by omega
  go_enter Try.func12, Try.ntmps12
  go_wp2
  refine wp_scope_jumps 0 (HeadStop w 12) (fun _ _ => 0) rfl ?_ ?_
  · go_wp2_with (first | (go_at_call 14; refine (endless_any _ _).mono ?_; rintro e w' ⟨rfl, rfl⟩; rw [ht]) | (go_at_call 17; refine (fol_m 130 2 _ (by decide) (by decide) (by decide)).mono ?_; rintro e w' ⟨rfl, rfl⟩))
    go_step3
    exact ⟨rfl, rfl, rfl, rfl, rfl⟩
  · rintro ⟨tmps, defers⟩ w' ⟨rfl, rfl, hs, h7⟩
    go_wp2
    simp only [Exit.jump]
    refine bodyPost_ret (results_tmp4 rfl _ _ _) rfl ?_
    simp [hs, No]

set_option maxRecDepth 100000 in
set_option maxHeartbeats 400000 in
theorem head_l_long (b off k m c : Nat) (t x y : Int) (w : World) (hnc : k + m ≤ c) (hmax : k + m ≤ 9223372036854775807) (ht : endlessB t = false) (h0 : w.cell? ⟨b, off + k, none⟩ = some (.int .u8 t)) (h1 : w.cell? ⟨b, off + k + 1, none⟩ = some (.int .u8 130))
    (hm : 4 ≤ m) (hx0 : 0 ≤ x) (hx1 : x ≤ 255) (hy0 : 0 ≤ y) (hy1 : y ≤ 255) (hB : Bys w (some ⟨b, off + k + 1, none⟩) 3 [130, x, y]) (hx : x * 256 + y < 256) :
    Calls Try.prog 12 #[.slice (some ⟨b, off, none⟩) (k + m) c, .int .i64 k] w fun e w' => e = No 13 ∧ w = w' := by
  have hck : ¬ c = k := by omega
  obtain ⟨v, hw, hv1, hv2⟩ : ∃ v : Int, widthN (x * 256 + y) = v ∧ 1 ≤ v ∧ v ≤ 2 := ⟨_, rfl, by unfold widthN; split; omega; split <;> omega, by unfold widthN; split; omega; rw [if_pos (by omega)]; omega⟩
  go_enter Try.func12, Try.ntmps12
  go_wp2
  refine wp_scope_jumps 0 (HeadStop w 13) (fun _ _ => 0) rfl ?_ ?_
  · go_wp2_with (first | (go_at_call 14; refine (endless_any _ _).mono ?_; rintro e w' ⟨rfl, rfl⟩; rw [ht]) | (go_at_call 17; refine (fol_m 130 2 _ (by decide) (by decide) (by decide)).mono ?_; rintro e w' ⟨rfl, rfl⟩) | (go_at_call 18; refine (length_3 _ _ _ _ _ _ (by omega) hB).mono ?_; rintro e w' ⟨rfl, rfl⟩) | (go_at_call 15; refine (width_any _ _).mono ?_; rintro e w' ⟨rfl, rfl⟩; rw [hw]))
    go_step3
    exact ⟨rfl, rfl, rfl, rfl, rfl⟩
  · rintro ⟨tmps, defers⟩ w' ⟨rfl, rfl, hs, h7⟩
    go_wp2
    simp only [Exit.jump]
    refine bodyPost_ret (results_tmp4 rfl _ _ _) rfl ?_
    simp [hs, No]

set_option maxRecDepth 100000 in
set_option maxHeartbeats 400000 in
theorem head_l_no (b off k m c : Nat) (t x y : Int) (w : World) (hnc : k + m ≤ c) (hmax : k + m ≤ 9223372036854775807) (ht : endlessB t = false) (h0 : w.cell? ⟨b, off + k, none⟩ = some (.int .u8 t)) (h1 : w.cell? ⟨b, off + k + 1, none⟩ = some (.int .u8 130))
    (hm : 4 ≤ m) (hx0 : 0 ≤ x) (hx1 : x ≤ 255) (hy0 : 0 ≤ y) (hy1 : y ≤ 255) (hB : Bys w (some ⟨b, off + k + 1, none⟩) 3 [130, x, y]) (hx : 1 ≤ x) (hz : (m : Int) - 4 < x * 256 + y) :
    Calls Try.prog 12 #[.slice (some ⟨b, off, none⟩) (k + m) c, .int .i64 k] w fun e w' => e = No 12 ∧ w = w' := by
  have hck : ¬ c = k := by omega
  have hw : widthN (x * 256 + y) = 3 := by unfold widthN; rw [if_neg (by omega), if_neg (by omega)]
  go_enter Try.func12, Try.ntmps12
  go_wp2
  refine wp_scope_jumps 0 (HeadStop w 12) (fun _ _ => 0) rfl ?_ ?_
  · go_wp2_with (first | (go_at_call 14; refine (endless_any _ _).mono ?_; rintro e w' ⟨rfl, rfl⟩; rw [ht]) | (go_at_call 17; refine (fol_m 130 2 _ (by decide) (by decide) (by decide)).mono ?_; rintro e w' ⟨rfl, rfl⟩) | (go_at_call 18; refine (length_3 _ _ _ _ _ _ (by omega) hB).mono ?_; rintro e w' ⟨rfl, rfl⟩) | (go_at_call 15; refine (width_any _ _).mono ?_; rintro e w' ⟨rfl, rfl⟩; rw [hw]))
    go_step3
    exact ⟨rfl, rfl, rfl, rfl, rfl⟩
  · rintro ⟨tmps, defers⟩ w' ⟨rfl, rfl, hs, h7⟩
    go_wp2
    simp only [Exit.jump]
    refine bodyPost_ret (results_tmp4 rfl _ _ _) rfl ?_
    simp [hs, No]

set_option maxRecDepth 100000 in
set_option maxHeartbeats 400000 in
theorem head_l_ok (b off k m c : Nat) (t x y : Int) (w : World) (hnc : k + m ≤ c) (hmax : k + m ≤ 9223372036854775807) (ht : endlessB t = false) (h0 : w.cell? ⟨b, off + k, none⟩ = some (.int .u8 t)) (h1 : w.cell? ⟨b, off + k + 1, none⟩ = some (.int .u8 130))
    (hm : 4 ≤ m) (hx0 : 0 ≤ x) (hx1 : x ≤ 255) (hy0 : 0 ≤ y) (hy1 : y ≤ 255) (hB : Bys w (some ⟨b, off + k + 1, none⟩) 3 [130, x, y]) (hx : 1 ≤ x) (hz : x * 256 + y ≤ (m : Int) - 4) :
    Calls Try.prog 12 #[.slice (some ⟨b, off, none⟩) (k + m) c, .int .i64 k] w fun e w' => e = Yes t (k + 4) (k + 4 + (x * 256 + y)) ∧ w = w' := by
  have hck : ¬ c = k := by omega
  have hw : widthN (x * 256 + y) = 3 := by unfold widthN; rw [if_neg (by omega), if_neg (by omega)]
  go_enter Try.func12, Try.ntmps12
  go_wp2
  go_step3
  go_wp2_with (first | (go_at_call 14; refine (endless_any _ _).mono ?_; rintro e w' ⟨rfl, rfl⟩; rw [ht]) | (go_at_call 17; refine (fol_m 130 2 _ (by decide) (by decide) (by decide)).mono ?_; rintro e w' ⟨rfl, rfl⟩) | (go_at_call 18; refine (length_3 _ _ _ _ _ _ (by omega) hB).mono ?_; rintro e w' ⟨rfl, rfl⟩) | (go_at_call 15; refine (width_any _ _).mono ?_; rintro e w' ⟨rfl, rfl⟩; rw [hw]))
  rw [Exit.noGoto_ret]
  refine bodyPost_ret (results_tmp4 rfl _ _ _) rfl ?_
  exact ⟨rfl, rfl⟩
end Go.Proofs.Ytpfdebelpfcofaa.tlvc
