/- The document's own answer to Head: the same as tlv.Head's, way by way. -/
import Derived.Test.YtpfdebelpfcofaaTlvI
import Derived.BigQuiet
import Derived.Deep.QuietTactic
namespace Go.Proofs.Ytpfdebelpfcofaa.tlvc
open Go.RowKit
set_option linter.unusedVariables false

theorem bys_cell {w : World} {b off o n : Nat} {ys : List Int} (h : Bys w (some ⟨b, off, none⟩) n ys) (j : Nat) (hj : j < n) (ho : o = off + j) : w.cell? ⟨b, o, none⟩ = some (.int .u8 (ys.getD j 0)) := by
  obtain ⟨b', off', hA, _, hc⟩ := h.2.2 (by omega)
  cases hA
  subst ho
  exact hc j hj

theorem ref_arg (A : Option Addr) (n c : Nat) (at_ : Int) (w : World) (h : at_ < 0 ∨ (n : Int) < at_) :
    Calls Try.prog 13 #[.slice A n c, .int .i64 at_] w fun e w' => e = No 1 ∧ ∃ q, w' = w.drewN q := by
  by_cases h0 : at_ < 0
  · go_enter Try.func13, Try.ntmps13
    go_wp2
    refine bodyPost_ret (results_tmp4 rfl _ _ _) rfl ?_
    exact ⟨rfl, 0, rfl⟩
  · have h1 : (n : Int) < at_ := by omega
    clear h
    go_enter Try.func13, Try.ntmps13
    go_wp2
    refine bodyPost_ret (results_tmp4 rfl _ _ _) rfl ?_
    exact ⟨rfl, 0, rfl⟩

theorem ref_end (A : Option Addr) (n c : Nat) (w : World) (hnc : n ≤ c) (hm : n ≤ maxLen) :
    Calls Try.prog 13 #[.slice A n c, .int .i64 n] w fun e w' => e = No 12 ∧ ∃ q, w' = w.drewN q := by
  unfold maxLen at hm
  go_enter Try.func13, Try.ntmps13
  go_wp2
  all_goals
    refine bodyPost_ret (results_tmp4 rfl _ _ _) rfl ?_
    exact ⟨rfl, 0, rfl⟩

set_option maxRecDepth 100000 in
set_option maxHeartbeats 400000 in
theorem ref_tag (b off k m c : Nat) (t : Int) (w : World) (hm : 1 ≤ m) (hnc : k + m ≤ c) (hmax : k + m ≤ 9223372036854775807) (ht : endlessB t = true) (htf : 0 ≤ t ∧ t ≤ 255) (h0 : w.cell? ⟨b, off + k, none⟩ = some (.int .u8 t)) :
    Calls Try.prog 13 #[.slice (some ⟨b, off, none⟩) (k + m) c, .int .i64 k] w fun e w' => e = No 11 ∧ ∃ q, w' = w.drewN q := by
  have hck : ¬ c = k := by omega
  have hmod : (t % 32 == 31) = true := by rw [← endless_mod t htf.1 htf.2]; exact ht
  clear ht
  go_enter Try.func13, Try.ntmps13
  go_wp2
  refine bodyPost_ret (results_tmp4 rfl _ _ _) rfl ?_
  exact ⟨rfl, 0, rfl⟩

set_option maxRecDepth 100000 in
set_option maxHeartbeats 400000 in
theorem ref_one (b off k c : Nat) (t : Int) (w : World) (hnc : k + 1 ≤ c) (hmax : k + 1 ≤ 9223372036854775807) (ht : endlessB t = false) (htf : 0 ≤ t ∧ t ≤ 255) (h0 : w.cell? ⟨b, off + k, none⟩ = some (.int .u8 t)) :
    Calls Try.prog 13 #[.slice (some ⟨b, off, none⟩) (k + 1) c, .int .i64 k] w fun e w' => e = No 12 ∧ ∃ q, w' = w.drewN q := by
  have hck : ¬ c = k := by omega
  have hmod : (t % 32 == 31) = false := by rw [← endless_mod t htf.1 htf.2]; exact ht
  clear ht
  go_enter Try.func13, Try.ntmps13
  go_wp2
  refine bodyPost_ret (results_tmp4 rfl _ _ _) rfl ?_
  exact ⟨rfl, 0, rfl⟩

set_option maxRecDepth 100000 in
set_option maxHeartbeats 400000 in
theorem ref_len (b off k m c : Nat) (t f : Int) (w : World) (hm : 2 ≤ m) (hnc : k + m ≤ c) (hmax : k + m ≤ 9223372036854775807) (ht : endlessB t = false) (htf : 0 ≤ t ∧ t ≤ 255) (h0 : w.cell? ⟨b, off + k, none⟩ = some (.int .u8 t)) (h1 : w.cell? ⟨b, off + k + 1, none⟩ = some (.int .u8 f))
    (hf0 : 0 ≤ f) (hf1 : f ≤ 255) (hf : f = 128 ∨ 130 < f) :
    Calls Try.prog 13 #[.slice (some ⟨b, off, none⟩) (k + m) c, .int .i64 k] w fun e w' => e = No 13 ∧ ∃ q, w' = w.drewN q := by
  have hck : ¬ c = k := by omega
  have hmod : (t % 32 == 31) = false := by rw [← endless_mod t htf.1 htf.2]; exact ht
  clear ht
  by_cases h9 : f = 128
  · subst h9
    go_enter Try.func13, Try.ntmps13
    go_wp2
    refine bodyPost_ret (results_tmp4 rfl _ _ _) rfl ?_
    exact ⟨rfl, 0, rfl⟩
  · have h10 : 130 < f := by omega
    have hne : (f == 128) = false := by simp; omega
    clear hf h9
    go_enter Try.func13, Try.ntmps13
    go_wp2
    refine bodyPost_ret (results_tmp4 rfl _ _ _) rfl ?_
    exact ⟨rfl, 0, rfl⟩

set_option maxRecDepth 100000 in
set_option maxHeartbeats 400000 in
theorem ref_s_no (b off k m c : Nat) (t f : Int) (w : World) (hnc : k + m ≤ c) (hmax : k + m ≤ 9223372036854775807) (ht : endlessB t = false) (htf : 0 ≤ t ∧ t ≤ 255) (h0 : w.cell? ⟨b, off + k, none⟩ = some (.int .u8 t)) (h1 : w.cell? ⟨b, off + k + 1, none⟩ = some (.int .u8 f))
    (hf0 : 0 ≤ f) (hf1 : f < 128) (hm : 2 ≤ m) (hB : Bys w (some ⟨b, off + k + 1, none⟩) 1 [f]) (hx : (m : Int) - 2 < f) : Calls Try.prog 13 #[.slice (some ⟨b, off, none⟩) (k + m) c, .int .i64 k] w fun e w' => e = No 12 ∧ ∃ q, w' = w.drewN q := by
  have hck : ¬ c = k := by omega
  have hmod : (t % 32 == 31) = false := by rw [← endless_mod t htf.1 htf.2]; exact ht
  clear ht
  go_enter Try.func13, Try.ntmps13
  go_wp2
  refine bodyPost_ret (results_tmp4 rfl _ _ _) rfl ?_
  exact ⟨rfl, 0, rfl⟩

set_option maxRecDepth 100000 in
set_option maxHeartbeats 400000 in
theorem ref_s_ok (b off k m c : Nat) (t f : Int) (w : World) (hnc : k + m ≤ c) (hmax : k + m ≤ 9223372036854775807) (ht : endlessB t = false) (htf : 0 ≤ t ∧ t ≤ 255) (h0 : w.cell? ⟨b, off + k, none⟩ = some (.int .u8 t)) (h1 : w.cell? ⟨b, off + k + 1, none⟩ = some (.int .u8 f))
    (hf0 : 0 ≤ f) (hf1 : f < 128) (hm : 2 ≤ m) (hB : Bys w (some ⟨b, off + k + 1, none⟩) 1 [f]) (hx : f ≤ (m : Int) - 2) : Calls Try.prog 13 #[.slice (some ⟨b, off, none⟩) (k + m) c, .int .i64 k] w fun e w' => e = Yes t (k + 2) (k + 2 + f) ∧ ∃ q, w' = w.drewN q := by
  have hck : ¬ c = k := by omega
  have hmod : (t % 32 == 31) = false := by rw [← endless_mod t htf.1 htf.2]; exact ht
  clear ht
  go_enter Try.func13, Try.ntmps13
  go_wp2
  refine bodyPost_ret (results_tmp4 rfl _ _ _) rfl ?_
  exact ⟨rfl, 0, rfl⟩

set_option maxRecDepth 100000 in
set_option maxHeartbeats 400000 in
theorem ref_m_cut (b off k m c : Nat) (t  : Int) (w : World) (hnc : k + m ≤ c) (hmax : k + m ≤ 9223372036854775807) (ht : endlessB t = false) (htf : 0 ≤ t ∧ t ≤ 255) (h0 : w.cell? ⟨b, off + k, none⟩ = some (.int .u8 t)) (h1 : w.cell? ⟨b, off + k + 1, none⟩ = some (.int .u8 129))
    (hm : m = 2) : Calls Try.prog 13 #[.slice (some ⟨b, off, none⟩) (k + m) c, .int .i64 k] w fun e w' => e = No 12 ∧ ∃ q, w' = w.drewN q := by
  have hck : ¬ c = k := by omega
  have hmod : (t % 32 == 31) = false := by rw [← endless_mod t htf.1 htf.2]; exact ht
  clear ht
  subst hm
  go_enter Try.func13, Try.ntmps13
  go_wp2
  refine bodyPost_ret (results_tmp4 rfl _ _ _) rfl ?_
  exact ⟨rfl, 0, rfl⟩

set_option maxRecDepth 100000 in
set_option maxHeartbeats 400000 in
theorem ref_m_long (b off k m c : Nat) (t x : Int) (w : World) (hnc : k + m ≤ c) (hmax : k + m ≤ 9223372036854775807) (ht : endlessB t = false) (htf : 0 ≤ t ∧ t ≤ 255) (h0 : w.cell? ⟨b, off + k, none⟩ = some (.int .u8 t)) (h1 : w.cell? ⟨b, off + k + 1, none⟩ = some (.int .u8 129))
    (hm : 3 ≤ m) (hx0 : 0 ≤ x) (hx1 : x ≤ 255) (hB : Bys w (some ⟨b, off + k + 1, none⟩) 2 [129, x]) (hx : x < 128) : Calls Try.prog 13 #[.slice (some ⟨b, off, none⟩) (k + m) c, .int .i64 k] w fun e w' => e = No 13 ∧ ∃ q, w' = w.drewN q := by
  have hck : ¬ c = k := by omega
  have hmod : (t % 32 == 31) = false := by rw [← endless_mod t htf.1 htf.2]; exact ht
  clear ht
  have h2 : w.cell? ⟨b, off + k + 2, none⟩ = some (.int .u8 x) := bys_cell hB 1 (by decide) (by omega)
  clear hB
  go_enter Try.func13, Try.ntmps13
  go_wp2
  refine bodyPost_ret (results_tmp4 rfl _ _ _) rfl ?_
  exact ⟨rfl, 0, rfl⟩

set_option maxRecDepth 100000 in
set_option maxHeartbeats 400000 in
theorem ref_m_no (b off k m c : Nat) (t x : Int) (w : World) (hnc : k + m ≤ c) (hmax : k + m ≤ 9223372036854775807) (ht : endlessB t = false) (htf : 0 ≤ t ∧ t ≤ 255) (h0 : w.cell? ⟨b, off + k, none⟩ = some (.int .u8 t)) (h1 : w.cell? ⟨b, off + k + 1, none⟩ = some (.int .u8 129))
    (hm : 3 ≤ m) (hx0 : 0 ≤ x) (hx1 : x ≤ 255) (hB : Bys w (some ⟨b, off + k + 1, none⟩) 2 [129, x]) (hx : 128 ≤ x) (hy : (m : Int) - 3 < x) : Calls Try.prog 13 #[.slice (some ⟨b, off, none⟩) (k + m) c, .int .i64 k] w fun e w' => e = No 12 ∧ ∃ q, w' = w.drewN q := by
  have hck : ¬ c = k := by omega
  have hmod : (t % 32 == 31) = false := by rw [← endless_mod t htf.1 htf.2]; exact ht
  clear ht
  have h2 : w.cell? ⟨b, off + k + 2, none⟩ = some (.int .u8 x) := bys_cell hB 1 (by decide) (by omega)
  clear hB
  go_enter Try.func13, Try.ntmps13
  go_wp2
  refine bodyPost_ret (results_tmp4 rfl _ _ _) rfl ?_
  exact ⟨rfl, 0, rfl⟩

set_option maxRecDepth 100000 in
set_option maxHeartbeats 400000 in
theorem ref_m_ok (b off k m c : Nat) (t x : Int) (w : World) (hnc : k + m ≤ c) (hmax : k + m ≤ 9223372036854775807) (ht : endlessB t = false) (htf : 0 ≤ t ∧ t ≤ 255) (h0 : w.cell? ⟨b, off + k, none⟩ = some (.int .u8 t)) (h1 : w.cell? ⟨b, off + k + 1, none⟩ = some (.int .u8 129))
    (hm : 3 ≤ m) (hx0 : 0 ≤ x) (hx1 : x ≤ 255) (hB : Bys w (some ⟨b, off + k + 1, none⟩) 2 [129, x]) (hx : 128 ≤ x) (hy : x ≤ (m : Int) - 3) : Calls Try.prog 13 #[.slice (some ⟨b, off, none⟩) (k + m) c, .int .i64 k] w fun e w' => e = Yes t (k + 3) (k + 3 + x) ∧ ∃ q, w' = w.drewN q := by
  have hck : ¬ c = k := by omega
  have hmod : (t % 32 == 31) = false := by rw [← endless_mod t htf.1 htf.2]; exact ht
  clear ht
  have h2 : w.cell? ⟨b, off + k + 2, none⟩ = some (.int .u8 x) := bys_cell hB 1 (by decide) (by omega)
  clear hB
  go_enter Try.func13, Try.ntmps13
  go_wp2
  refine bodyPost_ret (results_tmp4 rfl _ _ _) rfl ?_
  exact ⟨rfl, 0, rfl⟩

set_option maxRecDepth 100000 in
set_option maxHeartbeats 400000 in
theorem ref_l_cut (b off k m c : Nat) (t  : Int) (w : World) (hnc : k + m ≤ c) (hmax : k + m ≤ 9223372036854775807) (ht : endlessB t = false) (htf : 0 ≤ t ∧ t ≤ 255) (h0 : w.cell? ⟨b, off + k, none⟩ = some (.int .u8 t)) (h1 : w.cell? ⟨b, off + k + 1, none⟩ = some (.int .u8 130))
    (hm0 : 2 ≤ m) (hm : m ≤ 3) : Calls Try.prog 13 #[.slice (some ⟨b, off, none⟩) (k + m) c, .int .i64 k] w fun e w' => e = No 12 ∧ ∃ q, w' = w.drewN q := by
  have hck : ¬ c = k := by omega
  have hmod : (t % 32 == 31) = false := by rw [← endless_mod t htf.1 htf.2]; exact ht
  clear ht
  go_enter Try.func13, Try.ntmps13
  go_wp2
  refine bodyPost_ret (results_tmp4 rfl _ _ _) rfl ?_
  exact ⟨rfl, 0, rfl⟩

set_option maxRecDepth 100000 in
set_option maxHeartbeats 400000 in
theorem ref_l_long (b off k m c : Nat) (t x y : Int) (w : World) (hnc : k + m ≤ c) (hmax : k + m ≤ 9223372036854775807) (ht : endlessB t = false) (htf : 0 ≤ t ∧ t ≤ 255) (h0 : w.cell? ⟨b, off + k, none⟩ = some (.int .u8 t)) (h1 : w.cell? ⟨b, off + k + 1, none⟩ = some (.int .u8 130))
    (hm : 4 ≤ m) (hx0 : 0 ≤ x) (hx1 : x ≤ 255) (hy0 : 0 ≤ y) (hy1 : y ≤ 255) (hB : Bys w (some ⟨b, off + k + 1, none⟩) 3 [130, x, y]) (hx : x * 256 + y < 256) : Calls Try.prog 13 #[.slice (some ⟨b, off, none⟩) (k + m) c, .int .i64 k] w fun e w' => e = No 13 ∧ ∃ q, w' = w.drewN q := by
  have hck : ¬ c = k := by omega
  have hmod : (t % 32 == 31) = false := by rw [← endless_mod t htf.1 htf.2]; exact ht
  clear ht
  have h2 : w.cell? ⟨b, off + k + 2, none⟩ = some (.int .u8 x) := bys_cell hB 1 (by decide) (by omega)
  have h3 : w.cell? ⟨b, off + k + 3, none⟩ = some (.int .u8 y) := bys_cell hB 2 (by decide) (by omega)
  clear hB
  have ho := or8 (x * 256) y (by omega) (by omega) (by omega) (by omega) (by omega)
  go_enter Try.func13, Try.ntmps13
  go_wp2
  go_quiet (fail)
  go_wp2
  refine bodyPost_ret (results_tmp4 rfl _ _ _) rfl ?_
  exact ⟨rfl, _, rfl⟩

set_option maxRecDepth 100000 in
set_option maxHeartbeats 400000 in
theorem ref_l_no (b off k m c : Nat) (t x y : Int) (w : World) (hnc : k + m ≤ c) (hmax : k + m ≤ 9223372036854775807) (ht : endlessB t = false) (htf : 0 ≤ t ∧ t ≤ 255) (h0 : w.cell? ⟨b, off + k, none⟩ = some (.int .u8 t)) (h1 : w.cell? ⟨b, off + k + 1, none⟩ = some (.int .u8 130))
    (hm : 4 ≤ m) (hx0 : 0 ≤ x) (hx1 : x ≤ 255) (hy0 : 0 ≤ y) (hy1 : y ≤ 255) (hB : Bys w (some ⟨b, off + k + 1, none⟩) 3 [130, x, y]) (hx : 1 ≤ x) (hz : (m : Int) - 4 < x * 256 + y) : Calls Try.prog 13 #[.slice (some ⟨b, off, none⟩) (k + m) c, .int .i64 k] w fun e w' => e = No 12 ∧ ∃ q, w' = w.drewN q := by
  have hck : ¬ c = k := by omega
  have hmod : (t % 32 == 31) = false := by rw [← endless_mod t htf.1 htf.2]; exact ht
  clear ht
  have h2 : w.cell? ⟨b, off + k + 2, none⟩ = some (.int .u8 x) := bys_cell hB 1 (by decide) (by omega)
  have h3 : w.cell? ⟨b, off + k + 3, none⟩ = some (.int .u8 y) := bys_cell hB 2 (by decide) (by omega)
  clear hB
  have ho := or8 (x * 256) y (by omega) (by omega) (by omega) (by omega) (by omega)
  go_enter Try.func13, Try.ntmps13
  go_wp2
  go_quiet (fail)
  go_wp2
  refine bodyPost_ret (results_tmp4 rfl _ _ _) rfl ?_
  exact ⟨rfl, _, rfl⟩

set_option maxRecDepth 100000 in
set_option maxHeartbeats 400000 in
theorem ref_l_ok (b off k m c : Nat) (t x y : Int) (w : World) (hnc : k + m ≤ c) (hmax : k + m ≤ 9223372036854775807) (ht : endlessB t = false) (htf : 0 ≤ t ∧ t ≤ 255) (h0 : w.cell? ⟨b, off + k, none⟩ = some (.int .u8 t)) (h1 : w.cell? ⟨b, off + k + 1, none⟩ = some (.int .u8 130))
    (hm : 4 ≤ m) (hx0 : 0 ≤ x) (hx1 : x ≤ 255) (hy0 : 0 ≤ y) (hy1 : y ≤ 255) (hB : Bys w (some ⟨b, off + k + 1, none⟩) 3 [130, x, y]) (hx : 1 ≤ x) (hz : x * 256 + y ≤ (m : Int) - 4) : Calls Try.prog 13 #[.slice (some ⟨b, off, none⟩) (k + m) c, .int .i64 k] w fun e w' => e = Yes t (k + 4) (k + 4 + (x * 256 + y)) ∧ ∃ q, w' = w.drewN q := by
  have hck : ¬ c = k := by omega
  have hmod : (t % 32 == 31) = false := by rw [← endless_mod t htf.1 htf.2]; exact ht
  clear ht
  have h2 : w.cell? ⟨b, off + k + 2, none⟩ = some (.int .u8 x) := bys_cell hB 1 (by decide) (by omega)
  have h3 : w.cell? ⟨b, off + k + 3, none⟩ = some (.int .u8 y) := bys_cell hB 2 (by decide) (by omega)
  clear hB
  have ho := or8 (x * 256) y (by omega) (by omega) (by omega) (by omega) (by omega)
  go_enter Try.func13, Try.ntmps13
  go_wp2
  go_quiet (fail)
  go_wp2
  refine bodyPost_ret (results_tmp4 rfl _ _ _) rfl ?_
  exact ⟨rfl, _, rfl⟩

theorem ref_ways : Ways 13 (fun w w' => ∃ q, w' = w.drewN q) where
  arg := ref_arg
  endd := ref_end
  tag := ref_tag
  one := ref_one
  len := ref_len
  s_no := ref_s_no
  s_ok := ref_s_ok
  m_cut := ref_m_cut
  m_long := ref_m_long
  m_no := ref_m_no
  m_ok := ref_m_ok
  l_cut := ref_l_cut
  l_long := ref_l_long
  l_no := ref_l_no
  l_ok := ref_l_ok

theorem refE_any (A : Option Addr) (n c : Nat) (xs : List Int) (a : Int) (w : World) (hb : Bys w A n xs) (hnc : n ≤ c) (hcm : c ≤ maxLen) :
    Calls Try.prog 13 #[.slice A n c, .int .i64 a] w fun e w' => e = headE a xs ∧ ∃ q, w' = w.drewN q := head_of ref_ways A n c xs a w hb hnc hcm
end Go.Proofs.Ytpfdebelpfcofaa.tlvc
