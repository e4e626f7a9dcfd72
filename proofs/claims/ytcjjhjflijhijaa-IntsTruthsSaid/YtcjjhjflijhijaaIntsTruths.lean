/- The law IntsTruths of warderlaw02 answers true for every truth and every body, and leaves its arguments as they were; no condition. -/
import Derived.Test.YtcjjhjflijhijaaRows
import Derived.WalkKit
import Derived.ProofKit
import Derived.OpenShut
import Derived.ChangeOld
import Derived.Below
import Derived.SizedLaws
import Derived.Test.YtcjjhjflijhijaaTlvO
import Derived.Test.YtcjjhjflijhijaaKitP
import Derived.Deep.RegionHeld3
import Derived.Test.YtcjjhjflijhijaaIntZ
namespace Go.Proofs.Ytcjjhjflijhijaa.intsTruths
open Go.ChangeShapes Go.WideShapes Go.ChangeAt Go.RowKit
set_option linter.unusedVariables false

theorem own : ownKnob Try.prog.godebug = none := by kernel_rfl
theorem laidOut : laidOutB Try.prog = true := by kernel_rfl

open Go.Proofs.Ytcjjhjflijhijaa.tlvc Go.Proofs.Ytcjjhjflijhijaa.intc Go.Proofs.Ytcjjhjflijhijaa.intm
/-- The two conversions of the law's region, under names of their own. -/
def cvA : Op := Op.convert 22 9 (Operand.tmp 24)
def cvB : Op := Op.convert 22 9 (Operand.tmp 27)
theorem cvA_eq : cvA = Op.convert 22 9 (Operand.tmp 24) := rfl
theorem cvB_eq : cvB = Op.convert 22 9 (Operand.tmp 27) := rfl

set_option maxRecDepth 100000 in
set_option maxHeartbeats 4000000 in
theorem walk (a0 : Bool) (a1 : Option Addr) (len1 cap1 : Nat) (x1 : List Int) (w : World) (w1 : tlvc.Bys w a1 len1 x1) (l1 : len1 ≤ cap1) (r1 : cap1 ≤ 140737488351232) :
    Calls Try.prog 5 #[.bool a0, .slice a1 len1 cap1] w fun e w' => e = .returned (.bool true) ∧ Below w.heap.size w w' := by
  have hmx : cap1 ≤ maxLen := by unfold maxLen; omega
  go_enter Try.func5, Try.ntmps5
  go_wp2_with fail
  refine (head_any _).mono ?_
  rintro e wa ⟨rfl, hba⟩
  go_wp2_with fail
  refine (bool_any _ _ _ _ _ (w1.below hba)).mono ?_
  obtain ⟨X, hX⟩ : ∃ X, (boolF x1).1 = X := ⟨_, rfl⟩
  obtain ⟨E, hE⟩ : ∃ E, (boolF x1).2 = E := ⟨_, rfl⟩
  rw [hX, hE]
  rintro e wb ⟨rfl, hbb⟩
  have HX := Lib.hid hX
  have HE := Lib.hid hE
  have hB := then_ hba hbb
  clear hX hE hba hbb
  go_wp2_with fail
  refine (refBool_any _ _ _ _ _ (w1.below hB)).mono ?_
  rw [HX.out, HE.out]
  rintro e wc ⟨rfl, rfl⟩
  go_wp2_with fail
  have HB := Lib.hid hB
  clear w1 hB r1 l1 hmx
  have hc1 := cvA_eq
  have hc2 := cvB_eq
  rw [← cvA_eq, ← cvB_eq]
  go_region_held3 (fun _ => True) (trivial) ((first | (go_at_call 24; refine (putBool_any _ _).mono ?_; rintro e wp ⟨A1, c1, rfl, hh1, hb1⟩; have s1 := str_now hh1.1 c1; try (have s2b := str_now (hh2.1.below hb1) c2)) | (go_at_call 25; refine (refPutBool_any _ _).mono ?_; rintro e wq ⟨A2, c2, rfl, hh2, hb2⟩; have s2 := str_now hh2.1 c2; try (have s1b := str_now (hh1.1.below hb2) c1))))
  all_goals (go_wp2; go_ret; first | exact ⟨rfl, then_ (then_ HB.out.drew hb1) hb2⟩ | exact ⟨rfl, then_ (then_ HB.out.drew hb2) hb1⟩)

set_option maxRecDepth 100000 in
theorem lifted (os : Os) (started : os.Started) (H : Type) (enc : TypeId × Value → H) :
    ReturnsInHanded {} Try.checked os 5 .any (Rows.intsTruthsSpec.pre6 enc Try.prog Try.f5 Rows.intsTruthsRow.domain false) (Rows.intsTruthsSpec.post enc Try.prog Try.f5 false true false false) := by
  refine returnsInHanded_of_change_sized (C := Try.checked) own started (by kernel_rfl) Try.func5
    (ChangeSpec.witness6 (enc := enc) (C := Try.checked) false ⟨#[], #[.bool false, .slice none 0 0], []⟩ 8 (by kernel_rfl) (by kernel_rfl) (by kernel_rfl) (by kernel_rfl)) ?_
  intro W base args ds gs before hval0 hW hcnd hsz0 _
  have hval : ∀ (j : Nat) t v, Try.f5.params[j]? = some t → args[j]? = some v → Value.okWide Try.prog W .any base t v := hval0
  have hW' := hW
  obtain ⟨p, q, hA0, hV, rfl, hfz, hnd⟩ := hW
  have hA : DataW.TrodAll enc Try.prog W 0 (fun _ => true) true Try.f5.params.toList args.toList ds p := hA0
  have hsz : (DataW.weightsEach Try.prog (Try.f5.params.toList ++ Rows.intsTruthsSpec.plain.varTypes Try.prog) (ds ++ gs)).all (· ≤ reachBytes) = true := hsz0
  rw [Try.params5] at hA hval hsz
  obtain ⟨v0, vs0, d0, ds0, p0, q0, hargs, rfl, rfl, h0, r_0⟩ := trodAll_cons hA
  obtain ⟨v1, vs1, d1, ds1, p1, q1, rfl, rfl, rfl, h1, r_1⟩ := trodAll_cons r_0
  obtain ⟨rfl, rfl, rfl⟩ := trodAll_nil r_1
  obtain rfl : args = #[v0, v1] := by cases args; simp_all
  obtain ⟨rfl, rfl⟩ := trodVars_none hV
  obtain ⟨a0, rfl, rfl, rfl⟩ := open_bool Try.underlying4 (hval 0 4 v0 rfl rfl) h0
  obtain ⟨a1, len1, cap1, rfl⟩ := okWide_slice Try.underlying22 (hval 1 22 v1 rfl rfl)
  have k1 := h1
  have lt1 : ∀ x ∈ p1, x.block < W.heap.size := by obtain ⟨m, hm⟩ := k1; exact DataW.trod_lt m _ _ _ hm
  obtain ⟨x1, w1, l1, m1, s1⟩ := tlvc.open_bys Try.underlying22 Try.underlying5 (by kernel_rfl) h1
  have r1 := tlvc.spots_reach hsz s1 (j := 1) rfl rfl Try.underlying22 (of_decide_eq_true (by kernel_rfl))
  clear hA0 hval0
  refine (walk a0 a1 len1 cap1 x1 W w1 l1 r1).mono fun e W' ⟨he, bel⟩ => ?_
  subst he
  exact ⟨_, rfl, _, _, _, [], _, [], hW', trodAll_mk1 (shut_bool Try.underlying4 _), (trodAll_cons_mk (shut_bool Try.underlying4 a0) (trodAll_cons_mk (Below.trod laidOut (by kernel_rfl) (of_decide_eq_true (by kernel_rfl)) k1 bel lt1) trodAll_mk0)), rfl, bel.frame _, fun h => by cases h⟩

theorem over : Rows.intsTruthsRow.holds Try.pinned (OpenSpec.ofChange Rows.intsTruthsSpec) :=
  OpenClaim.holds_of_wide 5 Try.f5 rfl rfl rfl rfl rfl rfl rfl ⟨rfl, rfl, rfl, rfl, rfl⟩ rfl rfl rfl rfl rfl (by kernel_rfl) Try.func5 (by kernel_rfl)
    (of_decide_eq_true (by kernel_rfl)) (by unfold Func.isWrapper; first | (rw [if_pos (by decide +kernel)]; kernel_rfl) | (rw [if_neg (by decide +kernel)]; exact ⟨rfl, rfl⟩))
    (fun os started H enc _ => lifted os started H enc)

theorem proved : Rows.IntsTruthsSaid := over
#print axioms proved
end Go.Proofs.Ytcjjhjflijhijaa.intsTruths
