/- The document's own Time, walked. -/
import Derived.Test.YtaafgohaikhekaaDoorTxZ
namespace Go.Proofs.YtaafgohaikhekaaDoor.txc
open Go.RowKit Go.Proofs.YtaafgohaikhekaaDoor.txm Go.Proofs.YtaafgohaikhekaaDoor.tlvc
set_option linter.unusedVariables false
set_option linter.unusedSimpArgs false

theorem number_at (A : Option Addr) (n c : Nat) (i : Int) (k : Nat) (v : Int) (xs : List Int) (w : World) (hi : i = (k : Int)) (hx : Bys w A n xs) (hk : k + 1 < n) (hn : n ≤ 1000) (hv : dig2 (xs.getD k 0) (xs.getD (k + 1) 0) = v) :
    Calls Tryd.prog 55 #[.slice A n c, .int .i64 i] w fun e w' => e = .returned (.int .i64 v) ∧ Below w.heap.size w w' := by
  subst hi; subst hv; exact number_any A n c k xs w hx hk hn
theorem month_at (y i : Int) (k : Nat) (v : Int) (w : World) (h : 1 ≤ y) (h2 : y ≤ 1000000) (hk : k < 12) (hi : i = (k : Int) + 1) (hv : mon (lp y) k = v) :
    Calls Tryd.prog 56 #[.int .i64 y, .int .i64 i] w fun e w' => e = .returned (.int .i64 v) ∧ Below w.heap.size w w' := by
  subst hi; subst hv; exact month_any y k w h h2 hk
theorem two_ret {a b : Int} (h : a = b) : (Ending.returned (.tuple #[.int .i64 a, .int .i64 0])) = .returned (.tuple #[.int .i64 b, .int .i64 0]) := by rw [h]
theorem getD_drop' (xs : List Int) (j k i : Nat) (h : i = j + k) : (xs.drop j).getD k 0 = xs.getD i 0 := by subst h; simp [List.getD_eq_getElem?_getD]
abbrev TimeIs (t : Int) (xs : List Int) (w : World) : Ending → World → Prop := fun e w' => e = .returned (.tuple #[.int .i64 (timeN t xs), .int .i64 (timeE t xs)]) ∧ Below w.heap.size w w'

theorem refTime_else (t : Int) (A : Option Addr) (cap : Nat) (xs : List Int) (w : World) (h1 : ¬ (t = 23 ∧ xs.length = 13)) (h2 : ¬ (t = 24 ∧ xs.length = 15)) (hm : xs.length ≤ 9223372036854775807) :
    Calls Tryd.prog 44 #[.int .u8 t, .slice A xs.length cap] w (TimeIs t xs w) := by
  obtain ⟨e1, e2⟩ := time_else h1 h2
  unfold TimeIs
  rw [e1, e2]
  clear e1 e2
  obtain ⟨n, hn⟩ : ∃ n, xs.length = n := ⟨_, rfl⟩
  rw [hn] at h1 h2 hm ⊢
  clear hn
  by_cases a : t = 23
  · have b : ¬ (n = 13) := fun h => h1 ⟨a, h⟩
    have b' : ¬ ((n : Int) = 13) := by omega
    subst a
    clear h1 h2 b
    go_enter Tryd.func44, Tryd.ntmps44
    go_wp2
    go_ret2
    exact ⟨rfl, Below.refl _ _⟩
  · by_cases c : t = 24
    · have b : ¬ (n = 15) := fun h => h2 ⟨c, h⟩
      have b' : ¬ ((n : Int) = 15) := by omega
      subst c
      clear h1 h2 b a
      go_enter Tryd.func44, Tryd.ntmps44
      go_wp2
      go_ret2
      exact ⟨rfl, Below.refl _ _⟩
    · clear h1 h2
      go_enter Tryd.func44, Tryd.ntmps44
      go_wp2
      go_ret2
      exact ⟨rfl, Below.refl _ _⟩
end Go.Proofs.YtaafgohaikhekaaDoor.txc
