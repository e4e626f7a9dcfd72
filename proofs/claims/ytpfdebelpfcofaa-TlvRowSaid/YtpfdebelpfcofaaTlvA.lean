import Derived.Test.YtpfdebelpfcofaaChecked
import Derived.WalkKit
import Derived.Below
import Derived.Lib.Hide
namespace Go.Proofs.Ytpfdebelpfcofaa.tlvc
open Go.RowKit

def endlessB (t : Int) : Bool := bits BinOp.and IntKind.u8 t 31 == 31

theorem endless_mod (t : Int) (h0 : 0 ≤ t) (h255 : t ≤ 255) : endlessB t = (t % 32 == 31) := by
  have key : ∀ k : Fin 256, endlessB (k.val : Int) = ((k.val : Int) % 32 == 31) := by decide +kernel
  obtain ⟨k, rfl⟩ := Int.eq_ofNat_of_zero_le h0
  exact key ⟨k, by omega⟩

theorem endless_any (t : Int) (w : World) :
    Calls Try.prog 14 #[.int .u8 t] w fun e w' => e = .returned (.bool (endlessB t)) ∧ w = w' := by
  go_enter Try.func14, Try.ntmps14
  go_wp2
  go_ret
  exact ⟨rfl, rfl⟩

def widthN (n : Int) : Int := if n < 128 then 1 else if n ≤ 255 then 2 else 3

theorem width_any (n : Int) (w : World) :
    Calls Try.prog 15 #[.int .i64 n] w fun e w' => e = .returned (.int .i64 (widthN n)) ∧ w = w' := by
  by_cases h1 : n < 128
  · have : widthN n = 1 := by simp [widthN, h1]
    rw [this]
    clear this
    go_enter Try.func15, Try.ntmps15
    go_wp2
    go_ret
    exact ⟨rfl, rfl⟩
  · by_cases h2 : n ≤ 255
    · have : widthN n = 2 := by simp [widthN, h1, h2]
      rw [this]
      clear this
      go_enter Try.func15, Try.ntmps15
      go_wp2
      go_ret
      exact ⟨rfl, rfl⟩
    · have : widthN n = 3 := by simp [widthN, h1, h2]
      rw [this]
      clear this
      go_enter Try.func15, Try.ntmps15
      go_wp2
      go_ret
      exact ⟨rfl, rfl⟩

theorem following_any (n : Int) (w : World) (h0 : 0 ≤ n) (h255 : n ≤ 255) :
    Calls Try.prog 17 #[.int .u8 n] w fun e w' => e = .returned (.int .i64 (if n < 128 then 0 else n - 128)) ∧ w = w' := by
  by_cases h1 : n < 128
  · rw [if_pos h1]
    go_enter Try.func17, Try.ntmps17
    go_wp2
    go_ret
    exact ⟨rfl, rfl⟩
  · rw [if_neg h1]
    go_enter Try.func17, Try.ntmps17
    go_wp2
    go_ret
    exact ⟨rfl, rfl⟩
end Go.Proofs.Ytpfdebelpfcofaa.tlvc
