/- What each law asks first: the live question. -/
import Derived.Test.YtomoinohfoalnaaDoorTxV
import Derived.Lib.SlBytesConst
namespace Go.Proofs.YtomoinohfoalnaaDoor.txc
open Go.RowKit Go.Proofs.YtomoinohfoalnaaDoor.txm Go.Proofs.YtomoinohfoalnaaDoor.tlvc
set_option linter.unusedVariables false

theorem bys_newf {w : World} {a : Int} (e : TypeId) (fr : Nat × Nat) (h : 0 ≤ a ∧ a ≤ 255) : Bys (w.alloc (.cells #[.int .u8 a] e fr)) (some ⟨w.heap.size, 0, none⟩) 1 [a] := by
  refine ⟨rfl, fun x hx => by simp at hx; subst hx; exact h, fun _ => ⟨_, _, rfl, by simp, fun j hj => ?_⟩⟩
  obtain rfl : j = 0 := by omega
  rw [Nat.zero_add, World.cell?_alloc_mark]
  rfl
theorem in0 : InR 0 := by unfold InR; omega
theorem tag0 : tagOf 0 = 23 := by decide
theorem body0 : bodyOf 0 = [55, 48, 48, 49, 48, 49, 48, 48, 48, 48, 48, 48, 90] := by kernel_rfl
theorem prep0 : prepF ⟨#[32, 65, 32, 32, 98, 32]⟩ = [97, 32, 98] := by kernel_rfl
theorem right0 : rightB 22 [97] = true := by kernel_rfl
theorem same0 : ((strOfNums [55, 48, 48, 49, 48, 49, 48, 48, 48, 48, 48, 48, 90]).toList == [55, 48, 48, 49, 48, 49, 48, 48, 48, 48, 48, 48, 90]) = true := by kernel_rfl
set_option maxRecDepth 100000 in
set_option maxHeartbeats 400000 in
theorem head_any (w : World) : Calls Tryd.prog 11 #[] w fun e w' => e = .returned (.bool true) ∧ Below w.heap.size w w' := by
  have hp := putTime_in 0 w in0
  rw [tag0, body0] at hp
  have HP := Lib.hid hp
  clear hp
  go_enter Tryd.func11, Tryd.ntmps11
  go_wp2_with fail
  refine HP.out.mono ?_
  rintro e w1 ⟨A, c, rfl, hh, hb1⟩
  have hcv : (convert 22 9 (.slice A 13 c)).run Tryd.prog w1 = .ok (.string (strOfNums [55, 48, 48, 49, 48, 49, 48, 48, 48, 48, 48, 48, 90])) w1 := str_now hh.1 c
  have hs0 := same0
  go_wp2_with fail
  refine (prep_any ⟨#[32, 65, 32, 32, 98, 32]⟩ _ (by decide)).mono ?_
  rw [prep0]
  rintro e w2 ⟨rfl, hb2⟩
  have hB2 := then_ hb1 hb2
  have hcs := fun (w : World) (C : Array Value) (n c : Nat) => Lib.run_convert_bytes_const (P := Tryd.prog) w 22 5 C n c Tryd.underlying22 Tryd.underlying5
  clear hb1 hb2 hcv hh
  go_wp2_with fail
  refine (right_any 22 _ _ _ [97] _ (by decide) (bys_newf (w := w2) 5 (1, 2) (by omega)) (by unfold maxLen; decide)).mono ?_
  rw [right0]
  rintro e w3 ⟨rfl, hb3⟩
  have hB3 := then_ (hB2.alloc hB2.size (.cells #[.int .u8 97] 5 (1, 2))) hb3
  clear hb3
  go_wp2
  go_ret
  exact ⟨rfl, hB3⟩
end Go.Proofs.YtomoinohfoalnaaDoor.txc
