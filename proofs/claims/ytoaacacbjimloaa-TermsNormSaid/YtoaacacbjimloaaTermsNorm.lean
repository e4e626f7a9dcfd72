/- The law TermsNorm of warderlaw05 answers true for every term, and leaves its argument as it was; no condition. -/
import Derived.Test.YtoaacacbjimloaaRows
import Derived.WalkKit
import Derived.ProofKit
import Derived.OpenShut
import Derived.ChangeOld
import Derived.Below
import Derived.SizedLaws
import Derived.Test.YtoaacacbjimloaaTlvO
import Derived.Test.YtoaacacbjimloaaTmOp
import Derived.Test.YtoaacacbjimloaaTmL
import Derived.Test.YtoaacacbjimloaaTmV
import Derived.Test.YtoaacacbjimloaaTmRb
import Derived.Test.YtoaacacbjimloaaTmRd
import Derived.Deep.RegionHeld3
namespace Go.Proofs.Ytoaacacbjimloaa.termsNorm
open Go.ChangeShapes Go.WideShapes Go.ChangeAt Go.RowKit
set_option linter.unusedVariables false

theorem own : ownKnob Try.prog.godebug = none := by kernel_rfl
theorem laidOut : laidOutB Try.prog = true := by kernel_rfl

open Go.Proofs.Ytoaacacbjimloaa.tlvc Go.Proofs.Ytoaacacbjimloaa.tmc

set_option maxRecDepth 100000 in
set_option maxHeartbeats 32000000 in
theorem walk (n0 : tmc.Tm) (c0_0 c0_1 c0_2 c0_3 : Value) (w : World) (w0 : tmc.TmC (fun _ => True) w n0 c0_0 c0_1 c0_2 c0_3) (y0 : tmc.fitD n0) :
    Calls Try.prog 5 #[.agg #[c0_0, c0_1, c0_2, c0_3]] w fun e w' => e = .returned (.bool true) ∧ Below w.heap.size w w' := by
  obtain ⟨o0, m0, A0, la0, ca0, K0, lk0, ck0, rfl, rfl, rfl, rfl⟩ := w0.shape
  obtain ⟨W0, hW0⟩ : ∃ y, w.alloc (.cells #[.int .i64 o0, .int .i64 m0, .slice A0 la0 ca0, .slice K0 lk0 ck0] 26) = y := ⟨_, rfl⟩
  have hb0 : Below w.heap.size w W0 := by rw [← hW0]; exact below_new _ _
  have hq0 : W0.heap[w.heap.size]? = some (.cells #[.int .i64 o0, .int .i64 m0, .slice A0 la0 ca0, .slice K0 lk0 ck0] 26) := by rw [← hW0]; exact heap_new_ _ _
  have hk0 := TmC.below hb0 _ _ _ _ _ w0
  have hbox : ∀ W, Lat W0 W → W.cell? ⟨w.heap.size, 0, none⟩ = some (.int .i64 o0) ∧ W.cell? ⟨w.heap.size, 1, none⟩ = some (.int .i64 m0) ∧ W.cell? ⟨w.heap.size, 2, none⟩ = some (.slice A0 la0 ca0) ∧ W.cell? ⟨w.heap.size, 3, none⟩ = some (.slice K0 lk0 ck0) ∧ Lat W0 W := fun W hW => by
    obtain ⟨a0, b0, c0, d0⟩ := hW.box hq0
    exact ⟨a0, b0, c0, d0, hW⟩
  have hgreat := fun W (hW : Lat W0 W) => great_any (fun _ => True) n0 (.agg #[.int .i64 o0, .int .i64 m0, .slice A0 la0 ca0, .slice K0 lk0 ck0]) W ⟨_, _, _, _, rfl, hW.tm hk0⟩
  have hbd : greatB n0 = false → szT n0 ≤ 2000 := fun h => great_no h
  obtain ⟨G, hG⟩ : ∃ y, greatB n0 = y := ⟨_, rfl⟩
  rw [hG] at hgreat hbd
  have hcopy := fun (hs : szT n0 ≤ 100000) W (hW : Lat W0 W) => copied_any n0 hs y0 (fun _ => True) (.agg #[.int .i64 o0, .int .i64 m0, .slice A0 la0 ca0, .slice K0 lk0 ck0]) W ⟨_, _, _, _, rfl, hW.tm hk0⟩
  have hrnorm := fun (hs : szT n0 ≤ 100000) W (hW : Lat W0 W) => rnorm_any n0 hs (fun _ => True) (.agg #[.int .i64 o0, .int .i64 m0, .slice A0 la0 ca0, .slice K0 lk0 ck0]) W ⟨_, _, _, _, rfl, hW.tm hk0⟩
  have HBOX := Lib.hid hbox
  have HG := Lib.hid hgreat
  have HBD := Lib.hid hbd
  have HC := Lib.hid hcopy
  have HRN := Lib.hid hrnorm
  have HB0 := Lib.hid hb0
  have HK0 := Lib.hid hk0
  have HY0 := Lib.hid y0
  clear hbox hgreat hbd hcopy hrnorm hb0 hk0 y0 hG hq0 w0
  go_enter Try.func5, Try.ntmps5
  go_wp2_with fail
  clear hW0
  refine (head_any W0).mono ?_
  rintro e wa ⟨rfl, hba⟩
  have HLA : Lat W0 wa := hba
  obtain ⟨k0, k1, k2, k3, _⟩ := HBOX.out wa HLA
  have HL := Lib.hid HLA
  clear hba HLA
  go_wp2_with fail
  refine (HG.out wa HL.out).mono ?_
  rintro e wb ⟨rfl, hbb⟩
  have hLb := HL.out.then_ hbb
  clear hbb HL k0 k1 k2 k3
  cases G with
  | true =>
    have hend := hLb.below HB0.out
    clear hLb
    go_wp2
    go_ret
    exact ⟨rfl, hend⟩
  | false =>
    have hz := HBD.out (by first | rfl | trivial)
    have hc := HC.out (by omega) wb hLb
    have HC' := Lib.hid hc
    obtain ⟨k0, k1, k2, k3, _⟩ := HBOX.out wb hLb
    have HLb := Lib.hid hLb
    clear hc hLb
    go_wp2_with fail
    refine HC'.out.mono ?_
    rintro e w5 ⟨v5, rfl, ⟨q0, q1, q2, q3, rfl, hk5⟩, hb5⟩
    obtain ⟨o5, m5, A5, la5, ca5, K5, lk5, ck5, rfl, rfl, rfl, rfl⟩ := hk5.shape
    obtain ⟨W5, hW5⟩ : ∃ y, w5.alloc (.cells #[.int .i64 o5, .int .i64 m5, .slice A5 la5 ca5, .slice K5 lk5 ck5] 26) = y := ⟨_, rfl⟩
    have hbn : Below w5.heap.size w5 W5 := by rw [← hW5]; exact below_new _ _
    have hqn : W5.heap[w5.heap.size]? = some (.cells #[.int .i64 o5, .int .i64 m5, .slice A5 la5 ca5, .slice K5 lk5 ck5] 26) := by rw [← hW5]; exact heap_new_ _ _
    have hL5 : Lat W0 W5 := (HLb.out.then_ hb5).then_ hbn
    have hk5' := TmC.below hbn _ _ _ _ _ hk5
    have hbx : ∀ W, Lat W5 W → W.cell? ⟨w.heap.size, 0, none⟩ = some (.int .i64 o0) ∧ W.cell? ⟨w.heap.size, 1, none⟩ = some (.int .i64 m0) ∧ W.cell? ⟨w.heap.size, 2, none⟩ = some (.slice A0 la0 ca0) ∧ W.cell? ⟨w.heap.size, 3, none⟩ = some (.slice K0 lk0 ck0) ∧ W.cell? ⟨w5.heap.size, 0, none⟩ = some (.int .i64 o5) ∧ W.cell? ⟨w5.heap.size, 1, none⟩ = some (.int .i64 m5) ∧ W.cell? ⟨w5.heap.size, 2, none⟩ = some (.slice A5 la5 ca5) ∧ W.cell? ⟨w5.heap.size, 3, none⟩ = some (.slice K5 lk5 ck5) ∧ Lat W5 W := fun W hW => by
      obtain ⟨k0, k1, k2, k3, _⟩ := HBOX.out W (hL5.then_ hW)
      obtain ⟨p0, p1, p2, p3⟩ := hW.box hqn
      exact ⟨k0, k1, k2, k3, p0, p1, p2, p3, hW⟩
    have hn5 := fun W (hW : Lat W5 W) => norm_any n0 (by omega) HY0.out _ (.agg #[.int .i64 o5, .int .i64 m5, .slice A5 la5 ca5, .slice K5 lk5 ck5]) W ⟨_, _, _, _, rfl, hW.tm hk5'⟩
    have hr5 := fun W (hW : Lat W5 W) => HRN.out (by omega) W (hL5.then_ hW)
    have hs5 := fun W (hW : Lat W5 W) => same_self n0 _ _ (.agg #[.int .i64 o5, .int .i64 m5, .slice A5 la5 ca5, .slice K5 lk5 ck5]) (.agg #[.int .i64 o0, .int .i64 m0, .slice A0 la0 ca0, .slice K0 lk0 ck0]) W ⟨_, _, _, _, rfl, hW.tm hk5'⟩ ⟨_, _, _, _, rfl, (hL5.then_ hW).tm HK0.out⟩
    have hS0 := hbx W5.drew (Lat.drew (Lat.refl W5))
    have HBX := Lib.hid hbx
    have HN := Lib.hid hn5
    have HR := Lib.hid hr5
    have HS := Lib.hid hs5
    have HL5 := Lib.hid hL5
    clear hbx hn5 hr5 hs5 hL5 hk5' hk5 hb5 hbn hqn HC' k0 k1 k2 k3 hz
    go_wp2_with fail
    clear hW5
    go_region_held3 (fun W => W.cell? ⟨w.heap.size, 0, none⟩ = some (.int .i64 o0) ∧ W.cell? ⟨w.heap.size, 1, none⟩ = some (.int .i64 m0) ∧ W.cell? ⟨w.heap.size, 2, none⟩ = some (.slice A0 la0 ca0) ∧ W.cell? ⟨w.heap.size, 3, none⟩ = some (.slice K0 lk0 ck0) ∧ W.cell? ⟨w5.heap.size, 0, none⟩ = some (.int .i64 o5) ∧ W.cell? ⟨w5.heap.size, 1, none⟩ = some (.int .i64 m5) ∧ W.cell? ⟨w5.heap.size, 2, none⟩ = some (.slice A5 la5 ca5) ∧ W.cell? ⟨w5.heap.size, 3, none⟩ = some (.slice K5 lk5 ck5) ∧ Lat W5 W) (first | exact hS0 | exact hSZ | exact hSN | exact hSR) ((first
      | (go_at_call 21; refine (HN.out _ (by assumption : _ ∧ _ ∧ _ ∧ _ ∧ _ ∧ _ ∧ _ ∧ _ ∧ Lat W5 _).2.2.2.2.2.2.2.2).mono ?_; rintro e wN ⟨vN, rfl, ⟨x0, x1, x2, x3, rfl, hkN⟩, hbN⟩; obtain ⟨oN, mN, AN, laN, caN, KN, lkN, ckN, rfl, rfl, rfl, rfl⟩ := hkN.shape; have hSN := HBX.out wN (Lat.then_ (by assumption : _ ∧ _ ∧ _ ∧ _ ∧ _ ∧ _ ∧ _ ∧ _ ∧ Lat W5 _).2.2.2.2.2.2.2.2 hbN); try (have hkR2 := TmC.below hbN _ _ _ _ _ hkR))
      | (go_at_call 22; refine (HR.out _ (by assumption : _ ∧ _ ∧ _ ∧ _ ∧ _ ∧ _ ∧ _ ∧ _ ∧ Lat W5 _).2.2.2.2.2.2.2.2).mono ?_; rintro e wR ⟨vR, rfl, ⟨z0, z1, z2, z3, rfl, hkR⟩, hbR⟩; obtain ⟨oR, mR, AR, laR, caR, KR, lkR, ckR, rfl, rfl, rfl, rfl⟩ := hkR.shape; have hSR := HBX.out wR (Lat.then_ (by assumption : _ ∧ _ ∧ _ ∧ _ ∧ _ ∧ _ ∧ _ ∧ _ ∧ Lat W5 _).2.2.2.2.2.2.2.2 hbR); try (have hkN2 := TmC.below hbR _ _ _ _ _ hkN))
      | (go_at_call 20; (first | (refine (same_self (normF n0) _ _ _ _ wR ⟨_, _, _, _, rfl, hkN2⟩ ⟨_, _, _, _, rfl, hkR⟩).mono ?_) | (refine (same_self (normF n0) _ _ _ _ wN ⟨_, _, _, _, rfl, hkN⟩ ⟨_, _, _, _, rfl, hkR2⟩).mono ?_)); rintro e wZ ⟨rfl, hbZ⟩; have hSZ := HBX.out wZ (Lat.then_ (by assumption : _ ∧ _ ∧ _ ∧ _ ∧ _ ∧ _ ∧ _ ∧ _ ∧ Lat W5 _).2.2.2.2.2.2.2.2 hbZ))))
    all_goals
      obtain ⟨k0, k1, k2, k3, p0, p1, p2, p3, hLZ⟩ := hSZ
      have hsm := HS.out wZ hLZ
      have HSM := Lib.hid hsm
      have HLZ := Lib.hid hLZ
      clear hsm hLZ
      clear hS0
      go_wp2_with fail
      refine HSM.out.mono ?_
      rintro e w9 ⟨rfl, hb9⟩
      have hend := (HL5.out.then_ (HLZ.out.then_ hb9)).below HB0.out
      clear HSM HLZ hb9 k0 k1 k2 k3 p0 p1 p2 p3
      go_wp2
      go_ret
      exact ⟨rfl, hend⟩

set_option maxRecDepth 100000 in
theorem lifted (os : Os) (started : os.Started) (H : Type) (enc : TypeId × Value → H) :
    ReturnsInHanded {} Try.checked os 5 .any (Rows.termsNormSpec.pre6 enc Try.prog Try.f5 Rows.termsNormRow.domain false) (Rows.termsNormSpec.post enc Try.prog Try.f5 false true false false) := by
  refine returnsInHanded_of_change_sized (C := Try.checked) own started (by kernel_rfl) Try.func5
    (ChangeSpec.witness6 (enc := enc) (C := Try.checked) false ⟨#[], #[.agg #[.int .i64 0, .int .i64 0, .slice none 0 0, .slice none 0 0]], []⟩ 8 (by kernel_rfl) (by kernel_rfl) (by kernel_rfl) (by kernel_rfl)) ?_
  intro W base args ds gs before hval0 hW hcnd hsz0 _
  have hval : ∀ (j : Nat) t v, Try.f5.params[j]? = some t → args[j]? = some v → Value.okWide Try.prog W .any base t v := hval0
  have hW' := hW
  obtain ⟨p, q, hA0, hV, rfl, hfz, hnd⟩ := hW
  have hA : DataW.TrodAll enc Try.prog W 0 (fun _ => true) true Try.f5.params.toList args.toList ds p := hA0
  have hsz : (DataW.weightsEach Try.prog (Try.f5.params.toList ++ Rows.termsNormSpec.plain.varTypes Try.prog) (ds ++ gs)).all (· ≤ reachBytes) = true := hsz0
  rw [Try.params5] at hA hval hsz
  obtain ⟨v0, vs0, d0, ds0, p0, q0, hargs, rfl, rfl, h0, r_0⟩ := trodAll_cons hA
  obtain ⟨rfl, rfl, rfl⟩ := trodAll_nil r_0
  obtain rfl : args = #[v0] := by cases args; simp_all
  obtain ⟨rfl, rfl⟩ := trodVars_none hV
  have k0 := h0
  have lt0 : ∀ x ∈ p0, x.block < W.heap.size := by obtain ⟨m, hm⟩ := k0; exact DataW.trod_lt m _ _ _ hm
  obtain ⟨n0, c0_0, c0_1, c0_2, c0_3, rfl, w0, z0⟩ := tmc.open_tm ({ U := _, f0 := _, f1 := _, f2 := _, f3 := _, hT := Try.underlying26, hone := by kernel_rfl, hC := by kernel_rfl, e0 := Try.underlying22, e1 := Try.underlying2, e2 := Try.underlying23, eU := Try.underlying5, cU := by kernel_rfl, bU := by kernel_rfl, e3 := Try.underlying24 }) (hval 0 26 v0 rfl rfl) h0
  have y0 := z0 (tmc.each_fit hsz (j := 0) rfl rfl)
  clear hA0 hval0
  refine (walk n0 c0_0 c0_1 c0_2 c0_3 W w0 y0).mono fun e W' ⟨he, bel⟩ => ?_
  subst he
  exact ⟨_, rfl, _, _, _, [], _, [], hW', trodAll_mk1 (shut_bool Try.underlying4 _), (trodAll_cons_mk (Below.trod laidOut (by kernel_rfl) (of_decide_eq_true (by kernel_rfl)) k0 bel lt0) trodAll_mk0), rfl, bel.frame _, fun h => by cases h⟩

theorem over : Rows.termsNormRow.holds Try.pinned (OpenSpec.ofChange Rows.termsNormSpec) :=
  OpenClaim.holds_of_wide 5 Try.f5 rfl rfl rfl rfl rfl rfl rfl ⟨rfl, rfl, rfl, rfl, rfl⟩ rfl rfl rfl rfl rfl (by kernel_rfl) Try.func5 (by kernel_rfl)
    (of_decide_eq_true (by kernel_rfl)) (by unfold Func.isWrapper; first | (rw [if_pos (by decide +kernel)]; kernel_rfl) | (rw [if_neg (by decide +kernel)]; exact ⟨rfl, rfl⟩))
    (fun os started H enc _ => lifted os started H enc)

theorem proved : Rows.TermsNormSaid := over
#print axioms proved
end Go.Proofs.Ytoaacacbjimloaa.termsNorm
