/- The law IntsOrder of warderlaw02 answers true for every two numbers, and leaves its arguments as they were; no condition. -/
import Derived.Test.YtcjjhjflijhijaaRows
import Derived.WalkKit
import Derived.ProofKit
import Derived.OpenShut
import Derived.ChangeOld
import Derived.Below
import Derived.SizedLaws
import Derived.Test.YtcjjhjflijhijaaTlvO
import Derived.Test.YtcjjhjflijhijaaKitP
import Derived.Test.YtcjjhjflijhijaaIntAA
namespace Go.Proofs.Ytcjjhjflijhijaa.intsOrder
open Go.ChangeShapes Go.WideShapes Go.ChangeAt Go.RowKit
set_option linter.unusedVariables false

theorem own : ownKnob Try.prog.godebug = none := by kernel_rfl
theorem laidOut : laidOutB Try.prog = true := by kernel_rfl

open Go.Proofs.Ytcjjhjflijhijaa.tlvc Go.Proofs.Ytcjjhjflijhijaa.intc Go.Proofs.Ytcjjhjflijhijaa.intm

set_option maxRecDepth 100000 in
set_option maxHeartbeats 4000000 in
theorem walk (a0 : Int) (a1 : Int) (w : World) (w0 : (Lit.int .i64 a0).wf = true) (w1 : (Lit.int .i64 a1).wf = true) :
    Calls Try.prog 8 #[.int .i64 a0, .int .i64 a1] w fun e w' => e = .returned (.bool true) ∧ Below w.heap.size w w' := by
  have hn := i64_of w0
  have hm := i64_of w1
  have hk1 := width_bd a0
  have hk2 := width_bd a1
  have hl1 := putI_length a0
  have hl2 := putI_length a1
  rw [← hl1] at hk1
  rw [← hl2] at hk2
  have hup := Lib.hid (fun (h0 : 0 ≤ a0) (h1 : 0 ≤ a1) => width_up h0 h1)
  have hdown := Lib.hid (fun (h0 : a0 < 0) (h1 : a1 < 0) => width_down h0 h1)
  have hless := Lib.hid (fun (h0 : 0 ≤ a0) (h1 : 0 ≤ a1) => less_put hn hm h0 h1)
  obtain ⟨L1, hL1⟩ : ∃ L1, (putI a0).length = L1 := ⟨_, rfl⟩
  obtain ⟨L2, hL2⟩ : ∃ L2, (putI a1).length = L2 := ⟨_, rfl⟩
  rw [hL1] at hk1 hup hdown hless
  rw [hL2] at hk2 hup hdown hless
  have HL1 := Lib.hid hL1
  have HL2 := Lib.hid hL2
  clear hl1 hl2 hL1 hL2
  go_enter Try.func8, Try.ntmps8
  go_wp2_with fail
  refine (head_any _).mono ?_
  rintro e wa ⟨rfl, hba⟩
  go_wp2_with fail
  refine (putInt_any _ _ hn).mono ?_
  rintro e wb ⟨A1, c1, rfl, hh1, hb1⟩
  rw [HL1.out]
  go_wp2_with fail
  refine (putInt_any _ _ hm).mono ?_
  rintro e wc ⟨A2, c2, rfl, hh2, hb2⟩
  rw [HL2.out]
  have s1 := str_now (hh1.1.below hb2) c1
  have s2 := str_now hh2.1 c2
  rw [HL1.out] at s1
  rw [HL2.out] at s2
  have hB := then_ (then_ hba hb1) hb2
  clear hba hb1 hb2 hh1 hh2
  have d1 : decide ((L1 : Int) < 1) = false := by simp only [decide_eq_false_iff_not]; omega
  have d2 : decide ((L2 : Int) < 1) = false := by simp only [decide_eq_false_iff_not]; omega
  have d3 : decide ((8 : Int) < L1) = false := by simp only [decide_eq_false_iff_not]; omega
  have d4 : decide ((8 : Int) < L2) = false := by simp only [decide_eq_false_iff_not]; omega
  by_cases p0 : 0 ≤ a0
  · by_cases p1 : 0 ≤ a1
    · by_cases q : L1 = L2
      · have hbl := hless.out p0 p1 q
        by_cases hlt : a0 < a1
        · have hbl' : Op.bytesLess (strOfNums (putI a0)).toList (strOfNums (putI a1)).toList = true := by rw [hbl]; simpa using hlt
          clear hbl
          subst q
          go_wp2
          go_ret
          exact ⟨rfl, hB⟩
        · have hbl' : Op.bytesLess (strOfNums (putI a0)).toList (strOfNums (putI a1)).toList = false := by rw [hbl]; simpa using hlt
          clear hbl
          subst q
          go_wp2
          go_ret
          exact ⟨rfl, hB⟩
      · have q1 : (L1 == L2) = false := by simpa using q
        by_cases r : L1 < L2
        · have := hup.out p0 p1 r
          have h9 : decide (a1 ≤ a0) = false := by simp only [decide_eq_false_iff_not]; omega
          go_wp2
          go_ret
          exact ⟨rfl, hB⟩
        · go_wp2
          go_ret
          exact ⟨rfl, hB⟩
    · go_wp2
      go_ret
      exact ⟨rfl, hB⟩
  · by_cases p1 : 0 ≤ a1
    · go_wp2
      go_ret
      exact ⟨rfl, hB⟩
    · by_cases r : L1 < L2
      · have := hdown.out (by omega) (by omega) r
        have h9 : decide (a0 ≤ a1) = false := by simp only [decide_eq_false_iff_not]; omega
        go_wp2
        go_ret
        exact ⟨rfl, hB⟩
      · go_wp2
        go_ret
        exact ⟨rfl, hB⟩

set_option maxRecDepth 100000 in
theorem lifted (os : Os) (started : os.Started) (H : Type) (enc : TypeId × Value → H) :
    ReturnsInHanded {} Try.checked os 8 .any (Rows.intsOrderSpec.pre6 enc Try.prog Try.f8 Rows.intsOrderRow.domain false) (Rows.intsOrderSpec.post enc Try.prog Try.f8 false true false false) := by
  refine returnsInHanded_of_change_sized (C := Try.checked) own started (by kernel_rfl) Try.func8
    (ChangeSpec.witness6 (enc := enc) (C := Try.checked) false ⟨#[], #[.int .i64 0, .int .i64 0], []⟩ 8 (by kernel_rfl) (by kernel_rfl) (by kernel_rfl) (by kernel_rfl)) ?_
  intro W base args ds gs before hval0 hW hcnd hsz0 _
  have hval : ∀ (j : Nat) t v, Try.f8.params[j]? = some t → args[j]? = some v → Value.okWide Try.prog W .any base t v := hval0
  have hW' := hW
  obtain ⟨p, q, hA0, hV, rfl, hfz, hnd⟩ := hW
  have hA : DataW.TrodAll enc Try.prog W 0 (fun _ => true) true Try.f8.params.toList args.toList ds p := hA0
  have hsz : (DataW.weightsEach Try.prog (Try.f8.params.toList ++ Rows.intsOrderSpec.plain.varTypes Try.prog) (ds ++ gs)).all (· ≤ reachBytes) = true := hsz0
  rw [Try.params8] at hA hval hsz
  obtain ⟨v0, vs0, d0, ds0, p0, q0, hargs, rfl, rfl, h0, r_0⟩ := trodAll_cons hA
  obtain ⟨v1, vs1, d1, ds1, p1, q1, rfl, rfl, rfl, h1, r_1⟩ := trodAll_cons r_0
  obtain ⟨rfl, rfl, rfl⟩ := trodAll_nil r_1
  obtain rfl : args = #[v0, v1] := by cases args; simp_all
  obtain ⟨rfl, rfl⟩ := trodVars_none hV
  obtain ⟨a0, rfl, rfl, rfl, w0⟩ := open_int Try.underlying2 (hval 0 2 v0 rfl rfl) h0
  obtain ⟨a1, rfl, rfl, rfl, w1⟩ := open_int Try.underlying2 (hval 1 2 v1 rfl rfl) h1
  clear hA0 hval0
  refine (walk a0 a1 W w0 w1).mono fun e W' ⟨he, bel⟩ => ?_
  subst he
  exact ⟨_, rfl, _, _, _, [], _, [], hW', trodAll_mk1 (shut_bool Try.underlying4 _), (trodAll_cons_mk (shut_int Try.underlying2 w0) (trodAll_cons_mk (shut_int Try.underlying2 w1) trodAll_mk0)), rfl, bel.frame _, fun h => by cases h⟩

theorem over : Rows.intsOrderRow.holds Try.pinned (OpenSpec.ofChange Rows.intsOrderSpec) :=
  OpenClaim.holds_of_wide 8 Try.f8 rfl rfl rfl rfl rfl rfl rfl ⟨rfl, rfl, rfl, rfl, rfl⟩ rfl rfl rfl rfl rfl (by kernel_rfl) Try.func8 (by kernel_rfl)
    (of_decide_eq_true (by kernel_rfl)) (by unfold Func.isWrapper; first | (rw [if_pos (by decide +kernel)]; kernel_rfl) | (rw [if_neg (by decide +kernel)]; exact ⟨rfl, rfl⟩))
    (fun os started H enc _ => lifted os started H enc)

theorem proved : Rows.IntsOrderSaid := over
#print axioms proved
end Go.Proofs.Ytcjjhjflijhijaa.intsOrder
