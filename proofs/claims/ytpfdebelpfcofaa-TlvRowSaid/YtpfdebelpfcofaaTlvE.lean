/- The live question of warderlaw01: it answers true, and writes nothing that was there. -/
import Derived.Test.YtpfdebelpfcofaaTlvD
namespace Go.Proofs.Ytpfdebelpfcofaa.tlvc
open Go.RowKit

theorem ab_bytes : putBytes 4 [97, 98] = [4, 2, 97, 98] := by decide
theorem ab_str : strOfNums [4, 2, 97, 98] = { data := #[4, 2, 97, 98] } := by decide
theorem e4 : endlessB 4 = false := by decide +kernel
theorem e31 : endlessB 31 = true := by decide +kernel

set_option maxHeartbeats 400000 in
theorem head_any (w : World) :
    Calls Try.prog 9 #[] w fun e w' => e = .returned (.bool true) ∧ Below w.heap.size w w' := by
  have hf : Fit [97, 98] := by intro x hx; simp at hx; omega
  have kc := fun (w : World) (C : Array Value) (n c : Nat) => Lib.run_convert_bytes_const (P := Try.prog) w 22 5 C n c Try.underlying22 Try.underlying5
  go_enter Try.func9, Try.ntmps9
  go_wp2_with fail
  clear kc
  refine (put_ok 4 _ 2 2 [97, 98] _ e4 (by decide) (by decide) (by decide) (bys_new rfl hf rfl (by simp))).mono ?_
  rw [ab_bytes]
  rintro e w1 ⟨g, cap, rfl, hown, hb, hbel⟩
  have hs := run_str (P := Try.prog) 22 5 Try.underlying22 Try.underlying5 _ _ cap _ hb 9 Try.underlying9
  rw [ab_str] at hs
  simp only [List.length_cons, List.length_nil] at hs
  go_wp2_with fail
  refine (put_tag 31 none 0 0 _ e31).mono ?_
  rintro e w2 ⟨rfl, rfl⟩
  go_wp2_with fail
  go_ret
  exact ⟨rfl, ((Below.refl _ _).alloc (Nat.le_refl _) _).trans (hbel.mono (by simp))⟩
end Go.Proofs.Ytpfdebelpfcofaa.tlvc
