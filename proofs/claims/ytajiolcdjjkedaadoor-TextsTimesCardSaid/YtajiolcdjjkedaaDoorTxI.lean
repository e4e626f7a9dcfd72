/- The document's own months. -/
import Derived.Test.YtajiolcdjjkedaaDoorTxH
namespace Go.Proofs.YtajiolcdjjkedaaDoor.txc
open Go.RowKit Go.Proofs.YtajiolcdjjkedaaDoor.txm Go.Proofs.YtajiolcdjjkedaaDoor.tlvc
set_option linter.unusedVariables false

def monsR : Array Value := #[.int .i64 31, .int .i64 28, .int .i64 31, .int .i64 30, .int .i64 31, .int .i64 30, .int .i64 31, .int .i64 31, .int .i64 30, .int .i64 31, .int .i64 30, .int .i64 31]
theorem monsR_at {k : Nat} (h : k < 12) : monsR[k]? = some (.int .i64 (mon 0 k)) := by
  rcases twelve h with rfl | rfl | rfl | rfl | rfl | rfl | rfl | rfl | rfl | rfl | rfl | rfl <;> rfl
theorem mon_other {l : Int} {k : Nat} (h : k ≠ 1) : mon l k = mon 0 k := by
  unfold mon; split <;> first | rfl | exact absurd rfl h

set_option maxRecDepth 100000 in
set_option maxHeartbeats 400000 in
theorem month_any (y : Int) (k : Nat) (w : World) (h : 1 ≤ y) (h2 : y ≤ 1000000) (hk : k < 12) :
    Calls Tryd.prog 39 #[.int .i64 y, .int .i64 ((k : Int) + 1)] w fun e w' => e = .returned (.int .i64 (mon (lp y) k)) ∧ Below w.heap.size w w' := by
  have hcell : (w.alloc (.cells #[.int .i64 31, .int .i64 28, .int .i64 31, .int .i64 30, .int .i64 31, .int .i64 30, .int .i64 31, .int .i64 31, .int .i64 30, .int .i64 31, .int .i64 30, .int .i64 31] 3)).cell? ⟨w.heap.size, k, none⟩ = some (.int .i64 (mon 0 k)) := by
    rw [World.cell?_alloc_mark]; exact monsR_at hk
  have hb : Below w.heap.size w (w.alloc (.cells #[.int .i64 31, .int .i64 28, .int .i64 31, .int .i64 30, .int .i64 31, .int .i64 30, .int .i64 31, .int .i64 31, .int .i64 30, .int .i64 31, .int .i64 30, .int .i64 31] 3)) := (Below.refl _ _).alloc (Nat.le_refl _) _
  by_cases h1 : k = 1
  · subst h1
    have hl := lp_01 (y := y) (by omega)
    by_cases hp : lp y = 1
    · have hlb : leapB y = true := decide_eq_true hp
      have e : mon (lp y) 1 = 29 := by rw [hp]; rfl
      rw [e]
      have HB := Lib.hid hlb
      clear hlb hp e hl
      go_enter Tryd.func39, Tryd.ntmps39
      go_wp2_with fail
      refine (leap_any' _ _ h h2).mono ?_
      rw [HB.out]
      rintro e w' ⟨rfl, rfl⟩
      go_wp2
      go_ret
      exact ⟨rfl, hb⟩
    · have hlb : leapB y = false := decide_eq_false hp
      have hl0 : lp y = 0 := by omega
      rw [hl0]
      have HB := Lib.hid hlb
      clear hlb hp hl hl0
      go_enter Tryd.func39, Tryd.ntmps39
      go_wp2_with fail
      refine (leap_any' _ _ h h2).mono ?_
      rw [HB.out]
      rintro e w' ⟨rfl, rfl⟩
      go_wp2
      go_ret
      exact ⟨rfl, hb⟩
  · rw [mon_other h1]
    have ht : ((k : Int) + 1 == 2) = false := by simp; omega
    have hk0 : (0 : Int) ≤ k := by omega
    have hk1 : (k : Int) < 12 := by omega
    obtain ⟨M, hM⟩ : ∃ M, mon 0 k = M := ⟨_, rfl⟩
    rw [hM] at hcell ⊢
    clear h1 hM
    go_enter Tryd.func39, Tryd.ntmps39
    go_wp2
    go_ret
    exact ⟨rfl, hb⟩
end Go.Proofs.YtajiolcdjjkedaaDoor.txc
