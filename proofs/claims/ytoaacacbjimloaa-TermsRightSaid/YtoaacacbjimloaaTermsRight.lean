/- The law TermsRight of warderlaw05 answers true for every term, and leaves its argument as it was; no condition. -/
import Derived.Test.YtoaacacbjimloaaRows
import Derived.WalkKit
import Derived.ProofKit
import Derived.OpenShut
import Derived.ChangeOld
import Derived.Below
import Derived.SizedLaws
import Derived.Test.YtoaacacbjimloaaTlvO
import Derived.Test.YtoaacacbjimloaaTmOp
import Derived.Test.YtoaacacbjimloaaTmL
import Derived.Deep.RegionHeld3
namespace Go.Proofs.Ytoaacacbjimloaa.termsRight
open Go.ChangeShapes Go.WideShapes Go.ChangeAt Go.RowKit
set_option linter.unusedVariables false

theorem own : ownKnob Try.prog.godebug = none := by kernel_rfl
theorem laidOut : laidOutB Try.prog = true := by kernel_rfl

open Go.Proofs.Ytoaacacbjimloaa.tlvc Go.Proofs.Ytoaacacbjimloaa.tmc

set_option maxRecDepth 100000 in
set_option maxHeartbeats 8000000 in
theorem walk (n0 : tmc.Tm) (c0_0 c0_1 c0_2 c0_3 : Value) (w : World) (w0 : tmc.TmC (fun _ => True) w n0 c0_0 c0_1 c0_2 c0_3) (y0 : tmc.fitD n0) :
    Calls Try.prog 3 #[.agg #[c0_0, c0_1, c0_2, c0_3]] w fun e w' => e = .returned (.bool true) ∧ Below w.heap.size w w' := by
  obtain ⟨o, m, A, la, ca, K, lk, ck, rfl, rfl, rfl, rfl⟩ := w0.shape
  obtain ⟨W0, hW0⟩ : ∃ y, w.alloc (.cells #[.int .i64 o, .int .i64 m, .slice A la ca, .slice K lk ck] 26) = y := ⟨_, rfl⟩
  have hb0 : Below w.heap.size w W0 := by rw [← hW0]; exact below_new _ _
  have hq0 : W0.heap[w.heap.size]? = some (.cells #[.int .i64 o, .int .i64 m, .slice A la ca, .slice K lk ck] 26) := by rw [← hW0]; exact heap_new_ _ _
  have hk0 := TmC.below hb0 _ _ _ _ _ w0
  have hbox : ∀ W, Lat W0 W → W.cell? ⟨w.heap.size, 0, none⟩ = some (.int .i64 o) ∧ W.cell? ⟨w.heap.size, 1, none⟩ = some (.int .i64 m) ∧ W.cell? ⟨w.heap.size, 2, none⟩ = some (.slice A la ca) ∧ W.cell? ⟨w.heap.size, 3, none⟩ = some (.slice K lk ck) ∧ Lat W0 W := fun W hW => by
    obtain ⟨a, b, c, d⟩ := hW.box hq0
    exact ⟨a, b, c, d, hW⟩
  have hgreat := fun W (hW : Lat W0 W) => great_any (fun _ => True) n0 (.agg #[.int .i64 o, .int .i64 m, .slice A la ca, .slice K lk ck]) W ⟨_, _, _, _, rfl, hW.tm hk0⟩
  have hright := fun W (hW : Lat W0 W) => right_any n0 (fun _ => True) (.agg #[.int .i64 o, .int .i64 m, .slice A la ca, .slice K lk ck]) W ⟨_, _, _, _, rfl, hW.tm hk0⟩
  have hrright := fun W (hW : Lat W0 W) => rright_any n0 (fun _ => True) (.agg #[.int .i64 o, .int .i64 m, .slice A la ca, .slice K lk ck]) W ⟨_, _, _, _, rfl, hW.tm hk0⟩
  have hbound : greatB n0 = false → szT n0 ≤ 1000000 := fun h => by have := great_no h; omega
  have hsize := fun (hs : szT n0 ≤ 1000000) W (hW : Lat W0 W) => size_any _ n0 (Nat.le_refl _) hs (.agg #[.int .i64 o, .int .i64 m, .slice A la ca, .slice K lk ck]) W ⟨_, _, _, _, rfl, hW.tm hk0⟩
  have hrsize := fun (hs : szT n0 ≤ 1000000) W (hW : Lat W0 W) => refSize_any _ n0 (Nat.le_refl _) hs (.agg #[.int .i64 o, .int .i64 m, .slice A la ca, .slice K lk ck]) W ⟨_, _, _, _, rfl, hW.tm hk0⟩
  have hh := hbox W0 (Lat.refl _)
  obtain ⟨G, hG⟩ : ∃ y, greatB n0 = y := ⟨_, rfl⟩
  obtain ⟨R, hR⟩ : ∃ y, rightF n0 0 = y := ⟨_, rfl⟩
  obtain ⟨Z, hZ⟩ : ∃ y, szT n0 = y := ⟨_, rfl⟩
  rw [hG] at hgreat hbound
  rw [hR] at hright hrright
  rw [hZ] at hbound hsize hrsize
  have HBOX := Lib.hid hbox
  have HG := Lib.hid hgreat
  have HR := Lib.hid hright
  have HRR := Lib.hid hrright
  have HBD := Lib.hid hbound
  have HS := Lib.hid hsize
  have HRS := Lib.hid hrsize
  have HB0 := Lib.hid hb0
  clear hbox hgreat hright hrright hbound hsize hrsize hb0 hG hR hZ hq0 hk0 w0 hh
  go_enter Try.func3, Try.ntmps3
  go_wp2_with fail
  clear hW0
  refine (head_any W0).mono ?_
  rintro e wa ⟨rfl, hba⟩
  have HLA : Lat W0 wa := hba
  have hcell := fun (d : Nat) (os : Array Obj) => HBOX.out (Sort.grow (redrawn wa d) os) (HLA.re d os)
  have k0 := fun d os => (hcell d os).1
  have k1 := fun d os => (hcell d os).2.1
  have k2 := fun d os => (hcell d os).2.2.1
  have k3 := fun d os => (hcell d os).2.2.2.1
  have HL := Lib.hid HLA
  clear hba hcell HLA
  go_wp2_with fail
  cases G with
  | true =>
    refine wp_region_quiet_below (by kernel_rfl) (by kernel_rfl) ?_
    repeat (go_big_quiet_step ((go_at_call 11; refine Calls.regrown_of (HG.out _ (HL.out.re _ _)))))
    refine wpQuiet_nil ?_
    intro _ hw'
    obtain ⟨⟨nq, osq⟩, hw''⟩ := hw'
    subst hw''
    have hend := (HL.out.re nq osq).below HB0.out
    clear k0 k1 k2 k3
    go_wp2
    go_ret
    exact ⟨rfl, hend⟩
  | false =>
    have hs := HS.out (HBD.out rfl)
    have hrs := HRS.out (HBD.out rfl)
    have HS2 := Lib.hid hs
    have HRS2 := Lib.hid hrs
    clear hs hrs HS HRS HBD
    refine wp_region_quiet_below (by kernel_rfl) (by kernel_rfl) ?_
    repeat (go_big_quiet_step ((first | (go_at_call 11; refine Calls.regrown_of (HG.out _ (HL.out.re _ _))) | (go_at_call 12; refine Calls.regrown_of (HR.out _ (HL.out.re _ _))) | (go_at_call 13; refine Calls.regrown_of (HRR.out _ (HL.out.re _ _))) | (go_at_call 14; refine Calls.regrown_of (HS2.out _ (HL.out.re _ _))) | (go_at_call 15; refine Calls.regrown_of (HRS2.out _ (HL.out.re _ _))))))
    refine wpQuiet_nil ?_
    intro _ hw'
    obtain ⟨⟨nq, osq⟩, hw''⟩ := hw'
    subst hw''
    have hend := (HL.out.re nq osq).below HB0.out
    clear k0 k1 k2 k3
    go_wp2
    go_ret
    exact ⟨rfl, hend⟩

set_option maxRecDepth 100000 in
theorem lifted (os : Os) (started : os.Started) (H : Type) (enc : TypeId × Value → H) :
    ReturnsInHanded {} Try.checked os 3 .any (Rows.termsRightSpec.pre6 enc Try.prog Try.f3 Rows.termsRightRow.domain false) (Rows.termsRightSpec.post enc Try.prog Try.f3 false true false false) := by
  refine returnsInHanded_of_change_sized (C := Try.checked) own started (by kernel_rfl) Try.func3
    (ChangeSpec.witness6 (enc := enc) (C := Try.checked) false ⟨#[], #[.agg #[.int .i64 0, .int .i64 0, .slice none 0 0, .slice none 0 0]], []⟩ 8 (by kernel_rfl) (by kernel_rfl) (by kernel_rfl) (by kernel_rfl)) ?_
  intro W base args ds gs before hval0 hW hcnd hsz0 _
  have hval : ∀ (j : Nat) t v, Try.f3.params[j]? = some t → args[j]? = some v → Value.okWide Try.prog W .any base t v := hval0
  have hW' := hW
  obtain ⟨p, q, hA0, hV, rfl, hfz, hnd⟩ := hW
  have hA : DataW.TrodAll enc Try.prog W 0 (fun _ => true) true Try.f3.params.toList args.toList ds p := hA0
  have hsz : (DataW.weightsEach Try.prog (Try.f3.params.toList ++ Rows.termsRightSpec.plain.varTypes Try.prog) (ds ++ gs)).all (· ≤ reachBytes) = true := hsz0
  rw [Try.params3] at hA hval hsz
  obtain ⟨v0, vs0, d0, ds0, p0, q0, hargs, rfl, rfl, h0, r_0⟩ := trodAll_cons hA
  obtain ⟨rfl, rfl, rfl⟩ := trodAll_nil r_0
  obtain rfl : args = #[v0] := by cases args; simp_all
  obtain ⟨rfl, rfl⟩ := trodVars_none hV
  have k0 := h0
  have lt0 : ∀ x ∈ p0, x.block < W.heap.size := by obtain ⟨m, hm⟩ := k0; exact DataW.trod_lt m _ _ _ hm
  obtain ⟨n0, c0_0, c0_1, c0_2, c0_3, rfl, w0, z0⟩ := tmc.open_tm ({ U := _, f0 := _, f1 := _, f2 := _, f3 := _, hT := Try.underlying26, hone := by kernel_rfl, hC := by kernel_rfl, e0 := Try.underlying22, e1 := Try.underlying2, e2 := Try.underlying23, eU := Try.underlying5, cU := by kernel_rfl, bU := by kernel_rfl, e3 := Try.underlying24 }) (hval 0 26 v0 rfl rfl) h0
  have y0 := z0 (tmc.each_fit hsz (j := 0) rfl rfl)
  clear hA0 hval0
  refine (walk n0 c0_0 c0_1 c0_2 c0_3 W w0 y0).mono fun e W' ⟨he, bel⟩ => ?_
  subst he
  exact ⟨_, rfl, _, _, _, [], _, [], hW', trodAll_mk1 (shut_bool Try.underlying4 _), (trodAll_cons_mk (Below.trod laidOut (by kernel_rfl) (of_decide_eq_true (by kernel_rfl)) k0 bel lt0) trodAll_mk0), rfl, bel.frame _, fun h => by cases h⟩

theorem over : Rows.termsRightRow.holds Try.pinned (OpenSpec.ofChange Rows.termsRightSpec) :=
  OpenClaim.holds_of_wide 3 Try.f3 rfl rfl rfl rfl rfl rfl rfl ⟨rfl, rfl, rfl, rfl, rfl⟩ rfl rfl rfl rfl rfl (by kernel_rfl) Try.func3 (by kernel_rfl)
    (of_decide_eq_true (by kernel_rfl)) (by unfold Func.isWrapper; first | (rw [if_pos (by decide +kernel)]; kernel_rfl) | (rw [if_neg (by decide +kernel)]; exact ⟨rfl, rfl⟩))
    (fun os started H enc _ => lifted os started H enc)

theorem proved : Rows.TermsRightSaid := over
#print axioms proved
end Go.Proofs.Ytoaacacbjimloaa.termsRight
