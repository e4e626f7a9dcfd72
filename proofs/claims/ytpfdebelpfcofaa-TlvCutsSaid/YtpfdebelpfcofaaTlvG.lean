/- tlv.Head reads and writes nothing: what it answers to any bytes at any place. -/
import Derived.Test.YtpfdebelpfcofaaTlvF
namespace Go.Proofs.Ytpfdebelpfcofaa.tlvc
open Go.RowKit
set_option linter.unusedVariables false

theorem results_tmp4 {fn : Func} {t u v x : Tmp} (h : fn.results = #[.tmp t, .tmp u, .tmp v, .tmp x]) (tmps : Array Value) (P : Program) (w : World) :
    (results fn tmps).run P w = .ok (.tuple #[tmps.getD t undef, tmps.getD u undef, tmps.getD v undef, tmps.getD x undef]) w := by simp [results, h]

/-- What Head answers where it refuses. -/
def No (n : Int) : Ending := .returned (.tuple #[.int .u8 0, .int .i64 0, .int .i64 0, .int .i64 n])
/-- What it answers where it doesn't. -/
def Yes (t a z : Int) : Ending := .returned (.tuple #[.int .u8 t, .int .i64 a, .int .i64 z, .int .i64 0])

def HeadStop (w : World) (n : Int) (a' : Act) (w' : World) : Prop := w = w' ∧ a'.defers = [] ∧ a'.tmps.size = 79 ∧ a'.tmps.getD 11 undef = .int .i64 n

set_option maxRecDepth 100000 in
theorem head_arg (A : Option Addr) (n c : Nat) (at_ : Int) (w : World) (h : at_ < 0 ∨ (n : Int) < at_) :
    Calls Try.prog 12 #[.slice A n c, .int .i64 at_] w fun e w' => e = No 1 ∧ w = w' := by
  go_enter Try.func12, Try.ntmps12
  go_wp2
  refine wp_scope_jumps 0 (HeadStop w 1) (fun _ _ => 0) rfl ?_ ?_
  · rcases h with h | h
    · go_wp2
      go_step3
      exact ⟨rfl, rfl, rfl, rfl, rfl⟩
    · by_cases h0 : at_ < 0
      · go_wp2
        go_step3
        exact ⟨rfl, rfl, rfl, rfl, rfl⟩
      · go_wp2
        go_step3
        exact ⟨rfl, rfl, rfl, rfl, rfl⟩
  · rintro ⟨tmps, defers⟩ w' ⟨rfl, rfl, hs, h7⟩
    go_wp2
    simp only [Exit.jump]
    refine bodyPost_ret (results_tmp4 rfl _ _ _) rfl ?_
    simp [hs, No]

set_option maxRecDepth 100000 in
theorem head_end (A : Option Addr) (n c : Nat) (w : World) (hnc : n ≤ c) (hm : n ≤ maxLen) :
    Calls Try.prog 12 #[.slice A n c, .int .i64 n] w fun e w' => e = No 12 ∧ w = w' := by
  unfold maxLen at hm
  go_enter Try.func12, Try.ntmps12
  go_wp2
  refine wp_scope_jumps 0 (HeadStop w 12) (fun _ _ => 0) rfl ?_ ?_
  · go_wp2
    all_goals
      go_step3
      exact ⟨rfl, rfl, rfl, rfl, rfl⟩
  · rintro ⟨tmps, defers⟩ w' ⟨rfl, rfl, hs, h7⟩
    go_wp2
    simp only [Exit.jump]
    refine bodyPost_ret (results_tmp4 rfl _ _ _) rfl ?_
    simp [hs, No]

set_option maxRecDepth 100000 in
set_option maxHeartbeats 400000 in
theorem head_tag (b off k m c : Nat) (t : Int) (w : World) (hm : 1 ≤ m) (hnc : k + m ≤ c) (hmax : k + m ≤ 9223372036854775807) (ht : endlessB t = true) (h0 : w.cell? ⟨b, off + k, none⟩ = some (.int .u8 t)) :
    Calls Try.prog 12 #[.slice (some ⟨b, off, none⟩) (k + m) c, .int .i64 k] w fun e w' => e = No 11 ∧ w = w' := by
  have hck : ¬ c = k := by omega
  go_enter Try.func12, Try.ntmps12
  go_wp2
  refine wp_scope_jumps 0 (HeadStop w 11) (fun _ _ => 0) rfl ?_ ?_
  · go_wp2_with (go_at_call 14; refine (endless_any _ _).mono ?_; rintro e w' ⟨rfl, rfl⟩; rw [ht])
    go_step3
    exact ⟨rfl, rfl, rfl, rfl, rfl⟩
  · rintro ⟨tmps, defers⟩ w' ⟨rfl, rfl, hs, h7⟩
    go_wp2
    simp only [Exit.jump]
    refine bodyPost_ret (results_tmp4 rfl _ _ _) rfl ?_
    simp [hs, No]

set_option maxRecDepth 100000 in
set_option maxHeartbeats 400000 in
theorem head_one (b off k c : Nat) (t : Int) (w : World) (hnc : k + 1 ≤ c) (hmax : k + 1 ≤ 9223372036854775807) (ht : endlessB t = false) (h0 : w.cell? ⟨b, off + k, none⟩ = some (.int .u8 t)) :
    Calls Try.prog 12 #[.slice (some ⟨b, off, none⟩) (k + 1) c, .int .i64 k] w fun e w' => e = No 12 ∧ w = w' := by
  have hck : ¬ c = k := by omega
  go_enter Try.func12, Try.ntmps12
  go_wp2
  refine wp_scope_jumps 0 (HeadStop w 12) (fun _ _ => 0) rfl ?_ ?_
  · go_wp2_with (go_at_call 14; refine (endless_any _ _).mono ?_; rintro e w' ⟨rfl, rfl⟩; rw [ht])
    go_step3
    exact ⟨rfl, rfl, rfl, rfl, rfl⟩
  · rintro ⟨tmps, defers⟩ w' ⟨rfl, rfl, hs, h7⟩
    go_wp2
    simp only [Exit.jump]
    refine bodyPost_ret (results_tmp4 rfl _ _ _) rfl ?_
    simp [hs, No]

set_option maxRecDepth 100000 in
set_option maxHeartbeats 400000 in
theorem head_len (b off k m c : Nat) (t f : Int) (w : World) (hm : 2 ≤ m) (hnc : k + m ≤ c) (hmax : k + m ≤ 9223372036854775807) (ht : endlessB t = false) (h0 : w.cell? ⟨b, off + k, none⟩ = some (.int .u8 t)) (h1 : w.cell? ⟨b, off + k + 1, none⟩ = some (.int .u8 f))
    (hf0 : 0 ≤ f) (hf1 : f ≤ 255) (hf : f = 128 ∨ 130 < f) :
    Calls Try.prog 12 #[.slice (some ⟨b, off, none⟩) (k + m) c, .int .i64 k] w fun e w' => e = No 13 ∧ w = w' := by
  have hck : ¬ c = k := by omega
  have h128 : (f == 128) = true ∨ ((f == 128) = false ∧ 130 < f) := by rcases hf with rfl | h; exact .inl rfl; exact .inr ⟨by simp; omega, h⟩
  clear hf
  go_enter Try.func12, Try.ntmps12
  go_wp2
  refine wp_scope_jumps 0 (HeadStop w 13) (fun _ _ => 0) rfl ?_ ?_
  · rcases h128 with hx | ⟨hx, hy⟩
    · go_wp2_with (go_at_call 14; refine (endless_any _ _).mono ?_; rintro e w' ⟨rfl, rfl⟩; rw [ht])
      go_step3
      exact ⟨rfl, rfl, rfl, rfl, rfl⟩
    · go_wp2_with (go_at_call 14; refine (endless_any _ _).mono ?_; rintro e w' ⟨rfl, rfl⟩; rw [ht])
      go_step3
      exact ⟨rfl, rfl, rfl, rfl, rfl⟩
  · rintro ⟨tmps, defers⟩ w' ⟨rfl, rfl, hs, h7⟩
    go_wp2
    simp only [Exit.jump]
    refine bodyPost_ret (results_tmp4 rfl _ _ _) rfl ?_
    simp [hs, No]

theorem fol_s (n : Int) (w : World) (h0 : 0 ≤ n) (h : n < 128) :
    Calls Try.prog 17 #[.int .u8 n] w fun e w' => e = .returned (.int .i64 0) ∧ w = w' :=
  (following_any n w h0 (by omega)).mono fun e w' ⟨he, hw⟩ => ⟨by rw [he, if_pos h], hw⟩
theorem fol_m (n m : Int) (w : World) (h0 : n = 128 + m) (h1 : 0 ≤ m) (h : n ≤ 255) :
    Calls Try.prog 17 #[.int .u8 n] w fun e w' => e = .returned (.int .i64 m) ∧ w = w' :=
  (following_any n w (by omega) h).mono fun e w' ⟨he, hw⟩ => ⟨by rw [he, if_neg (by omega), show n - 128 = m by omega], hw⟩

set_option maxRecDepth 100000 in
set_option maxHeartbeats 400000 in
theorem head_s_no (b off k m c : Nat) (t f : Int) (w : World) (hnc : k + m ≤ c) (hmax : k + m ≤ 9223372036854775807) (ht : endlessB t = false) (h0 : w.cell? ⟨b, off + k, none⟩ = some (.int .u8 t)) (h1 : w.cell? ⟨b, off + k + 1, none⟩ = some (.int .u8 f))
    (hf0 : 0 ≤ f) (hf1 : f < 128) (hm : 2 ≤ m) (hB : Bys w (some ⟨b, off + k + 1, none⟩) 1 [f]) (hx : (m : Int) - 2 < f) :
    Calls Try.prog 12 #[.slice (some ⟨b, off, none⟩) (k + m) c, .int .i64 k] w fun e w' => e = No 12 ∧ w = w' := by
  have hck : ¬ c = k := by omega
  have hw : widthN f = 1 := by simp [widthN, hf1]
  have hne : (f == 128) = false := by simp; omega
  go_enter Try.func12, Try.ntmps12
  go_wp2
  refine wp_scope_jumps 0 (HeadStop w 12) (fun _ _ => 0) rfl ?_ ?_
  · go_wp2_with (first | (go_at_call 14; refine (endless_any _ _).mono ?_; rintro e w' ⟨rfl, rfl⟩; rw [ht]) | (go_at_call 17; refine (fol_s _ _ hf0 hf1).mono ?_; rintro e w' ⟨rfl, rfl⟩) | (go_at_call 18; refine (length_1 _ _ _ _ hB).mono ?_; rintro e w' ⟨rfl, rfl⟩) | (go_at_call 15; refine (width_any _ _).mono ?_; rintro e w' ⟨rfl, rfl⟩; rw [hw]))
    go_step3
    exact ⟨rfl, rfl, rfl, rfl, rfl⟩
  · rintro ⟨tmps, defers⟩ w' ⟨rfl, rfl, hs, h7⟩
    go_wp2
    simp only [Exit.jump]
    refine bodyPost_ret (results_tmp4 rfl _ _ _) rfl ?_
    simp [hs, No]

set_option maxRecDepth 100000 in
set_option maxHeartbeats 400000 in
theorem head_s_ok (b off k m c : Nat) (t f : Int) (w : World) (hnc : k + m ≤ c) (hmax : k + m ≤ 9223372036854775807) (ht : endlessB t = false) (h0 : w.cell? ⟨b, off + k, none⟩ = some (.int .u8 t)) (h1 : w.cell? ⟨b, off + k + 1, none⟩ = some (.int .u8 f))
    (hf0 : 0 ≤ f) (hf1 : f < 128) (hm : 2 ≤ m) (hB : Bys w (some ⟨b, off + k + 1, none⟩) 1 [f]) (hx : f ≤ (m : Int) - 2) :
    Calls Try.prog 12 #[.slice (some ⟨b, off, none⟩) (k + m) c, .int .i64 k] w fun e w' => e = Yes t (k + 2) (k + 2 + f) ∧ w = w' := by
  have hck : ¬ c = k := by omega
  have hw : widthN f = 1 := by simp [widthN, hf1]
  have hne : (f == 128) = false := by simp; omega
  go_enter Try.func12, Try.ntmps12
  go_wp2
  go_step3
  go_wp2_with (first | (go_at_call 14; refine (endless_any _ _).mono ?_; rintro e w' ⟨rfl, rfl⟩; rw [ht]) | (go_at_call 17; refine (fol_s _ _ hf0 hf1).mono ?_; rintro e w' ⟨rfl, rfl⟩) | (go_at_call 18; refine (length_1 _ _ _ _ hB).mono ?_; rintro e w' ⟨rfl, rfl⟩) | (go_at_call 15; refine (width_any _ _).mono ?_; rintro e w' ⟨rfl, rfl⟩; rw [hw]))
  rw [Exit.noGoto_ret]
  refine bodyPost_ret (results_tmp4 rfl _ _ _) rfl ?_
  exact ⟨rfl, rfl⟩
end Go.Proofs.Ytpfdebelpfcofaa.tlvc
