/- The document's own days, months and digits. The document's own months. The document's own PutTime. The document's own numbers of two digits; its PutTime for all. -/
import Derived.Test.YtaafgohaikhekaaDoorXb
import Derived.BigQuiet
import Derived.Deep.QuietTactic
namespace Go.Proofs.YtaafgohaikhekaaDoor.txc
open Go.RowKit Go.Proofs.YtaafgohaikhekaaDoor.txm Go.Proofs.YtaafgohaikhekaaDoor.tlvc
set_option linter.unusedVariables false

set_option maxRecDepth 100000 in
theorem leaps_any (y : Int) (w : World) (h : 0 ≤ y) (h2 : y ≤ 1000000) :
    Calls Tryd.prog 83 #[.int .i64 y] w fun e w' => e = .returned (.int .i64 (lpG (y + 1))) ∧ w = w' := by
  have e : lpG (y + 1) = y / 4 - y / 100 + y / 400 := by rw [lpG_pos (by omega)]; unfold lp4; rw [Int.add_sub_cancel]
  rw [e]
  clear e
  go_enter Tryd.func83, Tryd.ntmps83
  go_wp2
  go_ret
  exact ⟨rfl, rfl⟩

set_option maxRecDepth 100000 in
/-- Days from the beginning of 1970 on. -/
theorem days_any (y : Int) (w : World) (h : 1 ≤ y) (h2 : y ≤ 1000000) :
    Calls Tryd.prog 57 #[.int .i64 y] w fun e w' => e = .returned (.int .i64 (dto y - 7305)) ∧ w = w' := by
  obtain ⟨L, hL⟩ : ∃ L, lpG (y - 1 + 1) = L := ⟨_, rfl⟩
  have hb := lpG_bd (y := y - 1 + 1) (by omega) (by omega)
  rw [hL] at hb
  have hd : dto y - 7305 = 365 * (y - 1970) + L - 477 := by unfold dto; rw [show y = y - 1 + 1 by omega, hL]; omega
  rw [hd]
  have hL' := Lib.hid hL
  have e69 : lpG (1969 + 1) = 477 := by decide
  have H69 := Lib.hid e69
  clear hL hd e69
  obtain ⟨hb1, hb2⟩ := hb
  go_enter Tryd.func57, Tryd.ntmps57
  go_wp2_with fail
  refine (leaps_any _ _ (by omega) (by omega)).mono ?_
  rw [hL'.out]
  rintro e w' ⟨rfl, rfl⟩
  go_wp2_with fail
  refine (leaps_any _ _ (by omega) (by omega)).mono ?_
  rw [H69.out]
  rintro e w' ⟨rfl, rfl⟩
  go_wp2
  go_ret
  exact ⟨ret_i64 rfl, rfl⟩

def leapB (y : Int) : Bool := decide (lp y = 1)
set_option maxRecDepth 100000 in
theorem leap_any' (y : Int) (w : World) (h : 1 ≤ y) (h2 : y ≤ 1000000) :
    Calls Tryd.prog 82 #[.int .i64 y] w fun e w' => e = .returned (.bool (leapB y)) ∧ w = w' := by
  by_cases h4 : y % 4 = 0
  · by_cases h100 : y % 100 = 0
    · by_cases h400 : y % 400 = 0
      · have e : leapB y = true := decide_eq_true (lp_d h h4 h100 h400)
        rw [e]
        have t4 : (y % 4 == 0) = true := by simp [h4]
        have t100 : (y % 100 != 0) = false := by simp [h100]
        have t400 : (y % 400 == 0) = true := by simp [h400]
        clear h4 h100 h400 e
        go_enter Tryd.func82, Tryd.ntmps82
        go_wp2
        go_ret
        exact ⟨rfl, rfl⟩
      · have e : leapB y = false := decide_eq_false (by rw [lp_c h h4 h100 h400]; decide)
        rw [e]
        have t4 : (y % 4 == 0) = true := by simp [h4]
        have t100 : (y % 100 != 0) = false := by simp [h100]
        have t400 : (y % 400 == 0) = false := by simp [h400]
        clear h4 h100 h400 e
        go_enter Tryd.func82, Tryd.ntmps82
        go_wp2
        go_ret
        exact ⟨rfl, rfl⟩
    · have e : leapB y = true := decide_eq_true (lp_b h h4 h100)
      rw [e]
      have t4 : (y % 4 == 0) = true := by simp [h4]
      have t100 : (y % 100 != 0) = true := by simp [h100]
      clear h4 h100 e
      go_enter Tryd.func82, Tryd.ntmps82
      go_wp2
      go_ret
      exact ⟨rfl, rfl⟩
  · have e : leapB y = false := decide_eq_false (by rw [lp_a h h4]; decide)
    rw [e]
    have t4 : (y % 4 == 0) = false := by simp [h4]
    clear h4 e
    go_enter Tryd.func82, Tryd.ntmps82
    go_wp2
    go_ret
    exact ⟨rfl, rfl⟩

end Go.Proofs.YtaafgohaikhekaaDoor.txc
namespace Go.Proofs.YtaafgohaikhekaaDoor.txc
open Go.RowKit Go.Proofs.YtaafgohaikhekaaDoor.txm Go.Proofs.YtaafgohaikhekaaDoor.tlvc
set_option linter.unusedVariables false

def monsR : Array Value := #[.int .i64 31, .int .i64 28, .int .i64 31, .int .i64 30, .int .i64 31, .int .i64 30, .int .i64 31, .int .i64 31, .int .i64 30, .int .i64 31, .int .i64 30, .int .i64 31]
theorem monsR_at {k : Nat} (h : k < 12) : monsR[k]? = some (.int .i64 (mon 0 k)) := by
  rcases twelve h with rfl | rfl | rfl | rfl | rfl | rfl | rfl | rfl | rfl | rfl | rfl | rfl <;> rfl
theorem mon_other {l : Int} {k : Nat} (h : k ≠ 1) : mon l k = mon 0 k := by
  unfold mon; split <;> first | rfl | exact absurd rfl h

set_option maxRecDepth 100000 in
set_option maxHeartbeats 400000 in
theorem month_any (y : Int) (k : Nat) (w : World) (h : 1 ≤ y) (h2 : y ≤ 1000000) (hk : k < 12) :
    Calls Tryd.prog 56 #[.int .i64 y, .int .i64 ((k : Int) + 1)] w fun e w' => e = .returned (.int .i64 (mon (lp y) k)) ∧ Below w.heap.size w w' := by
  have hcell : (w.alloc (.cells #[.int .i64 31, .int .i64 28, .int .i64 31, .int .i64 30, .int .i64 31, .int .i64 30, .int .i64 31, .int .i64 31, .int .i64 30, .int .i64 31, .int .i64 30, .int .i64 31] 3)).cell? ⟨w.heap.size, k, none⟩ = some (.int .i64 (mon 0 k)) := by
    rw [World.cell?_alloc_mark]; exact monsR_at hk
  have hb : Below w.heap.size w (w.alloc (.cells #[.int .i64 31, .int .i64 28, .int .i64 31, .int .i64 30, .int .i64 31, .int .i64 30, .int .i64 31, .int .i64 31, .int .i64 30, .int .i64 31, .int .i64 30, .int .i64 31] 3)) := (Below.refl _ _).alloc (Nat.le_refl _) _
  by_cases h1 : k = 1
  · subst h1
    have hl := lp_01 (y := y) (by omega)
    by_cases hp : lp y = 1
    · have hlb : leapB y = true := decide_eq_true hp
      have e : mon (lp y) 1 = 29 := by rw [hp]; rfl
      rw [e]
      have HB := Lib.hid hlb
      clear hlb hp e hl
      go_enter Tryd.func56, Tryd.ntmps56
      go_wp2_with fail
      refine (leap_any' _ _ h h2).mono ?_
      rw [HB.out]
      rintro e w' ⟨rfl, rfl⟩
      go_wp2
      go_ret
      exact ⟨rfl, hb⟩
    · have hlb : leapB y = false := decide_eq_false hp
      have hl0 : lp y = 0 := by omega
      rw [hl0]
      have HB := Lib.hid hlb
      clear hlb hp hl hl0
      go_enter Tryd.func56, Tryd.ntmps56
      go_wp2_with fail
      refine (leap_any' _ _ h h2).mono ?_
      rw [HB.out]
      rintro e w' ⟨rfl, rfl⟩
      go_wp2
      go_ret
      exact ⟨rfl, hb⟩
  · rw [mon_other h1]
    have ht : ((k : Int) + 1 == 2) = false := by simp; omega
    have hk0 : (0 : Int) ≤ k := by omega
    have hk1 : (k : Int) < 12 := by omega
    obtain ⟨M, hM⟩ : ∃ M, mon 0 k = M := ⟨_, rfl⟩
    rw [hM] at hcell ⊢
    clear h1 hM
    go_enter Tryd.func56, Tryd.ntmps56
    go_wp2
    go_ret
    exact ⟨rfl, hb⟩
end Go.Proofs.YtaafgohaikhekaaDoor.txc
namespace Go.Proofs.YtaafgohaikhekaaDoor.txc
open Go.RowKit Go.Proofs.YtaafgohaikhekaaDoor.txm Go.Proofs.YtaafgohaikhekaaDoor.tlvc
set_option linter.unusedVariables false
set_option linter.unusedSimpArgs false

theorem own_two (w : World) (a b : Int) {base : Nat} (h : base ≤ w.heap.size) : (w.alloc (.cells #[.int .u8 a, .int .u8 b] 5)).ownsRow base 5 1 (.slice (some ⟨w.heap.size, 0, none⟩) 2 2) 2 (vals [a, b]) :=
  World.ownsRow_lit w #[.int .u8 a, .int .u8 b] 2 h (by decide) rfl
theorem put_own {w w' : World} {t : Int} {v : Value} {n : Nat} {ys zs : List Int} (hz : zs = ys) (h : w'.ownsRow w.heap.size 5 1 v n (vals zs)) (hf : Fit ys) (hb : Below w.heap.size w w') : Put w t ys 0 (.returned (.tuple #[.int .u8 t, v, .int .i64 0])) w' := by
  subst hz
  obtain ⟨A, c, e, hh, hb⟩ := made_own h hf hb
  cases e
  exact ⟨A, c, rfl, hh, hb⟩
theorem day_eqs {sec S r : Int} (hS : sec + 631152000 = S) (hr : S % 86400 = r) (h0 : 0 ≤ S) : (sec.tmod 86400 + 86400) % 86400 = r ∧ (sec - r).tdiv 86400 = S / 86400 - 7305 ∧ -86400 < sec.tmod 86400 ∧ sec.tmod 86400 < 86400 := by
  have h1 := Int.mul_tdiv_add_tmod sec 86400
  have h2 : sec.tmod 86400 < 86400 := by have := Int.tmod_lt_of_pos sec (show (0 : Int) < 86400 by decide); omega
  have h3 : -86400 < sec.tmod 86400 := by have := Int.lt_tmod_of_pos sec (show (0 : Int) < 86400 by decide); omega
  refine ⟨by omega, ?_, h3, h2⟩
  have e : sec - r = (S / 86400 - 7305) * 86400 := by omega
  rw [e]
  exact Int.mul_tdiv_cancel _ (by decide)
theorem clock_eqs {S r : Int} (hr : S % 86400 = r) (h0 : 0 ≤ S) : r / 3600 = S / 60 / 60 % 24 ∧ r / 60 % 60 = S / 60 % 60 ∧ r % 60 = S % 60 := by omega

end Go.Proofs.YtaafgohaikhekaaDoor.txc
namespace Go.Proofs.YtaafgohaikhekaaDoor.txm
/-- Two digits' number; below 0: there is none. -/
def dig2 (a b : Int) : Int := if (48 ≤ a ∧ a ≤ 57) ∧ (48 ≤ b ∧ b ≤ 57) then 10 * (a - 48) + (b - 48) else -1
theorem dig2_bd (a b : Int) : -1 ≤ dig2 a b ∧ dig2 a b ≤ 99 := by unfold dig2; split <;> omega
end Go.Proofs.YtaafgohaikhekaaDoor.txm
namespace Go.Proofs.YtaafgohaikhekaaDoor.txc
open Go.RowKit Go.Proofs.YtaafgohaikhekaaDoor.txm Go.Proofs.YtaafgohaikhekaaDoor.tlvc
set_option linter.unusedVariables false

set_option maxRecDepth 100000 in
set_option maxHeartbeats 1000000 in
theorem number_any (A : Option Addr) (n c k : Nat) (xs : List Int) (w : World) (hx : Bys w A n xs) (hk : k + 1 < n) (hn : n ≤ 1000) :
    Calls Tryd.prog 55 #[.slice A n c, .int .i64 k] w fun e w' => e = .returned (.int .i64 (dig2 (xs.getD k 0) (xs.getD (k + 1) 0))) ∧ Below w.heap.size w w' := by
  obtain ⟨b, off, rfl, hblt, hcells⟩ := hx.2.2 (by omega)
  have h0 := hcells k (by omega)
  have h1 := hcells (k + 1) hk
  have f0 := hx.2.1.getD k
  have f1 := hx.2.1.getD (k + 1)
  obtain ⟨a, ha⟩ : ∃ a, xs.getD k 0 = a := ⟨_, rfl⟩
  obtain ⟨d, hd⟩ : ∃ d, xs.getD (k + 1) 0 = d := ⟨_, rfl⟩
  rw [ha] at h0 f0 ⊢
  rw [hd] at h1 f1 ⊢
  obtain ⟨f0, f0'⟩ := f0
  obtain ⟨f1, f1'⟩ := f1
  have hk0 : (0 : Int) ≤ (k : Int) := by omega
  have hkn : (k : Int) < n := by omega
  have hkn' : k < n := by omega
  have hk1 : (k : Int) + 1 < n := by omega
  have hkt : ((k : Int) + 1).toNat = k + 1 := by omega
  have hk10 : (0 : Int) ≤ (k : Int) + 1 := by omega
  obtain ⟨R, hR⟩ : ∃ R, dig2 a d = R := ⟨_, rfl⟩
  rw [hR]
  have hno : ¬ ((48 ≤ a ∧ a ≤ 57) ∧ (48 ≤ d ∧ d ≤ 57)) → R = -1 := fun h => by rw [← hR]; exact if_neg h
  have hyes : (48 ≤ a ∧ a ≤ 57) ∧ (48 ≤ d ∧ d ≤ 57) → R = 10 * (a - 48) + (d - 48) := fun h => by rw [← hR]; exact if_pos h
  clear ha hd hcells hx hR hblt
  by_cases a1 : a < 48
  · have hr := hno (by omega)
    subst hr
    clear hno hyes
    go_enter Tryd.func55, Tryd.ntmps55
    go_wp2
    go_ret
    exact ⟨rfl, Below.refl _ _⟩
  · by_cases a2 : 57 < a
    · have hr := hno (by omega)
      subst hr
      clear hno hyes
      go_enter Tryd.func55, Tryd.ntmps55
      go_wp2
      go_ret
      exact ⟨rfl, Below.refl _ _⟩
    · by_cases d1 : d < 48
      · have hr := hno (by omega)
        subst hr
        clear hno hyes
        go_enter Tryd.func55, Tryd.ntmps55
        go_wp2
        go_ret
        exact ⟨rfl, Below.refl _ _⟩
      · by_cases d2 : 57 < d
        · have hr := hno (by omega)
          subst hr
          clear hno hyes
          go_enter Tryd.func55, Tryd.ntmps55
          go_wp2
          go_ret
          exact ⟨rfl, Below.refl _ _⟩
        · have hr := hyes (by omega)
          subst hr
          have hw0 : IntKind.u8.wrap (a - 48) = a - 48 := by show (a - 48) % 256 = a - 48; omega
          have hw1 : IntKind.u8.wrap (d - 48) = d - 48 := by show (d - 48) % 256 = d - 48; omega
          have hw2 : IntKind.i64.wrap (a - 48) = a - 48 := IntWalk.i64_in _ (by omega)
          have hw3 : IntKind.i64.wrap (d - 48) = d - 48 := IntWalk.i64_in _ (by omega)
          have hw4 : IntKind.i64.wrap (10 * (a - 48)) = 10 * (a - 48) := IntWalk.i64_in _ (by omega)
          have hw5 : IntKind.i64.wrap (10 * (a - 48) + (d - 48)) = 10 * (a - 48) + (d - 48) := IntWalk.i64_in _ (by omega)
          have hw6 : IntKind.i64.wrap ((k : Int) + 1) = k + 1 := IntWalk.i64_in _ (by omega)
          clear hno hyes
          go_enter Tryd.func55, Tryd.ntmps55
          go_wp2_with fail
          go_quiet (fail)
          go_wp2
          go_ret
          exact ⟨rfl, below_drewN _⟩
end Go.Proofs.YtaafgohaikhekaaDoor.txc
