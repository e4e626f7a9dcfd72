/- The law TermsOrder of warderlaw05 answers true for every two terms, and leaves its arguments as they were; no condition. -/
import Derived.Test.YtoaacacbjimloaaRows
import Derived.WalkKit
import Derived.ProofKit
import Derived.OpenShut
import Derived.ChangeOld
import Derived.Below
import Derived.SizedLaws
import Derived.Test.YtoaacacbjimloaaTlvO
import Derived.Test.YtoaacacbjimloaaTmOp
import Derived.Test.YtoaacacbjimloaaTmL
namespace Go.Proofs.Ytoaacacbjimloaa.termsOrder
open Go.ChangeShapes Go.WideShapes Go.ChangeAt Go.RowKit
set_option linter.unusedVariables false

theorem own : ownKnob Try.prog.godebug = none := by kernel_rfl
theorem laidOut : laidOutB Try.prog = true := by kernel_rfl

open Go.Proofs.Ytoaacacbjimloaa.tlvc Go.Proofs.Ytoaacacbjimloaa.tmc

set_option maxRecDepth 100000 in
set_option maxHeartbeats 8000000 in
theorem walk (n0 : tmc.Tm) (c0_0 c0_1 c0_2 c0_3 : Value) (n1 : tmc.Tm) (c1_0 c1_1 c1_2 c1_3 : Value) (w : World) (w0 : tmc.TmC (fun _ => True) w n0 c0_0 c0_1 c0_2 c0_3) (y0 : tmc.fitD n0) (w1 : tmc.TmC (fun _ => True) w n1 c1_0 c1_1 c1_2 c1_3) (y1 : tmc.fitD n1) :
    Calls Try.prog 4 #[.agg #[c0_0, c0_1, c0_2, c0_3], .agg #[c1_0, c1_1, c1_2, c1_3]] w fun e w' => e = .returned (.bool true) ∧ Below w.heap.size w w' := by
  obtain ⟨o0, m0, A0, la0, ca0, K0, lk0, ck0, rfl, rfl, rfl, rfl⟩ := w0.shape
  obtain ⟨o1, m1, A1, la1, ca1, K1, lk1, ck1, rfl, rfl, rfl, rfl⟩ := w1.shape
  obtain ⟨W0, hW0⟩ : ∃ y, (w.alloc (.cells #[.int .i64 o0, .int .i64 m0, .slice A0 la0 ca0, .slice K0 lk0 ck0] 26)).alloc (.cells #[.int .i64 o1, .int .i64 m1, .slice A1 la1 ca1, .slice K1 lk1 ck1] 26) = y := ⟨_, rfl⟩
  have hb0 : Below w.heap.size w W0 := by rw [← hW0]; exact (below_new _ _).alloc (by simp) _
  have hq0 : W0.heap[w.heap.size]? = some (.cells #[.int .i64 o0, .int .i64 m0, .slice A0 la0 ca0, .slice K0 lk0 ck0] 26) := by rw [← hW0, heap_old_ _ _ (by simp)]; exact heap_new_ _ _
  have hk0 := TmC.below hb0 _ _ _ _ _ w0
  have hq1 : W0.heap[w.heap.size + 1]? = some (.cells #[.int .i64 o1, .int .i64 m1, .slice A1 la1 ca1, .slice K1 lk1 ck1] 26) := by
    rw [← hW0]
    have := heap_new_ (w.alloc (.cells #[.int .i64 o0, .int .i64 m0, .slice A0 la0 ca0, .slice K0 lk0 ck0] 26)) (.cells #[.int .i64 o1, .int .i64 m1, .slice A1 la1 ca1, .slice K1 lk1 ck1] 26)
    rwa [show (w.alloc (.cells #[.int .i64 o0, .int .i64 m0, .slice A0 la0 ca0, .slice K0 lk0 ck0] 26)).heap.size = w.heap.size + 1 by simp] at this
  have hk1 := TmC.below hb0 _ _ _ _ _ w1
  have hbox : ∀ W, Lat W0 W → W.cell? ⟨w.heap.size, 0, none⟩ = some (.int .i64 o0) ∧ W.cell? ⟨w.heap.size, 1, none⟩ = some (.int .i64 m0) ∧ W.cell? ⟨w.heap.size, 2, none⟩ = some (.slice A0 la0 ca0) ∧ W.cell? ⟨w.heap.size, 3, none⟩ = some (.slice K0 lk0 ck0) ∧ W.cell? ⟨w.heap.size + 1, 0, none⟩ = some (.int .i64 o1) ∧ W.cell? ⟨w.heap.size + 1, 1, none⟩ = some (.int .i64 m1) ∧ W.cell? ⟨w.heap.size + 1, 2, none⟩ = some (.slice A1 la1 ca1) ∧ W.cell? ⟨w.heap.size + 1, 3, none⟩ = some (.slice K1 lk1 ck1) ∧ Lat W0 W := fun W hW => by
    obtain ⟨a0, b0, c0, d0⟩ := hW.box hq0
    obtain ⟨a1, b1, c1, d1⟩ := hW.box hq1
    exact ⟨a0, b0, c0, d0, a1, b1, c1, d1, hW⟩
  have hgreat0 := fun W (hW : Lat W0 W) => great_any (fun _ => True) n0 (.agg #[.int .i64 o0, .int .i64 m0, .slice A0 la0 ca0, .slice K0 lk0 ck0]) W ⟨_, _, _, _, rfl, hW.tm hk0⟩
  obtain ⟨G0, hG0⟩ : ∃ y, greatB n0 = y := ⟨_, rfl⟩
  rw [hG0] at hgreat0
  have HG0 := Lib.hid hgreat0
  have hgreat1 := fun W (hW : Lat W0 W) => great_any (fun _ => True) n1 (.agg #[.int .i64 o1, .int .i64 m1, .slice A1 la1 ca1, .slice K1 lk1 ck1]) W ⟨_, _, _, _, rfl, hW.tm hk1⟩
  obtain ⟨G1, hG1⟩ : ∃ y, greatB n1 = y := ⟨_, rfl⟩
  rw [hG1] at hgreat1
  have HG1 := Lib.hid hgreat1
  have hord := fun W (hW : Lat W0 W) => order_any n0 n1 (fun _ => True) (fun _ => True) (.agg #[.int .i64 o0, .int .i64 m0, .slice A0 la0 ca0, .slice K0 lk0 ck0]) (.agg #[.int .i64 o1, .int .i64 m1, .slice A1 la1 ca1, .slice K1 lk1 ck1]) W ⟨_, _, _, _, rfl, hW.tm hk0⟩ ⟨_, _, _, _, rfl, hW.tm hk1⟩
  have hrord := fun W (hW : Lat W0 W) => rorder_any n0 n1 (fun _ => True) (fun _ => True) (.agg #[.int .i64 o0, .int .i64 m0, .slice A0 la0 ca0, .slice K0 lk0 ck0]) (.agg #[.int .i64 o1, .int .i64 m1, .slice A1 la1 ca1, .slice K1 lk1 ck1]) W ⟨_, _, _, _, rfl, hW.tm hk0⟩ ⟨_, _, _, _, rfl, hW.tm hk1⟩
  have hsg := ordT_sg n0 n1
  obtain ⟨R, hR⟩ : ∃ y, ordT n0 n1 = y := ⟨_, rfl⟩
  rw [hR] at hord hrord hsg
  have hsign := fun W => sign_b R W hsg
  have HBOX := Lib.hid hbox
  have HO := Lib.hid hord
  have HRO := Lib.hid hrord
  have HSG := Lib.hid hsign
  have HB0 := Lib.hid hb0
  clear hbox hgreat0 hgreat1 hord hrord hsign hsg hb0 hG0 hG1 hR hq0 hq1 hk0 hk1 w0 w1
  go_enter Try.func4, Try.ntmps4
  go_wp2_with fail
  clear hW0
  refine (head_any W0).mono ?_
  rintro e wa ⟨rfl, hba⟩
  have HLA : Lat W0 wa := hba
  have hcell := fun (d : Nat) (os : Array Obj) => HBOX.out (Sort.grow (redrawn wa d) os) (HLA.re d os)
  have g0 := fun d os => (hcell d os).1
  have g1 := fun d os => (hcell d os).2.1
  have g2 := fun d os => (hcell d os).2.2.1
  have g3 := fun d os => (hcell d os).2.2.2.1
  have g4 := fun d os => (hcell d os).2.2.2.2.1
  have g5 := fun d os => (hcell d os).2.2.2.2.2.1
  have g6 := fun d os => (hcell d os).2.2.2.2.2.2.1
  have g7 := fun d os => (hcell d os).2.2.2.2.2.2.2.1
  clear hcell
  have HL := Lib.hid HLA
  clear hba HLA
  go_wp2_with fail
  cases G0 <;> cases G1
  all_goals
    refine wp_region_quiet_below (by kernel_rfl) (by kernel_rfl) ?_
    repeat (go_big_quiet_step ((first | (go_at_call 11; refine Calls.regrown_of (HG0.out _ (HL.out.re _ _))) | (go_at_call 11; refine Calls.regrown_of (HG1.out _ (HL.out.re _ _))) | (go_at_call 17; refine Calls.regrown_of (HO.out _ (HL.out.re _ _))) | (go_at_call 18; refine Calls.regrown_of (HRO.out _ (HL.out.re _ _))) | (go_at_call 16; refine Calls.regrown_of (HSG.out _)))))
    refine wpQuiet_nil ?_
    intro _ hw'
    obtain ⟨⟨nq, osq⟩, hw''⟩ := hw'
    subst hw''
    have hend := (HL.out.re nq osq).below HB0.out
    clear g0 g1 g2 g3 g4 g5 g6 g7
    go_wp2
    go_ret
    exact ⟨rfl, hend⟩

set_option maxRecDepth 100000 in
theorem lifted (os : Os) (started : os.Started) (H : Type) (enc : TypeId × Value → H) :
    ReturnsInHanded {} Try.checked os 4 .any (Rows.termsOrderSpec.pre6 enc Try.prog Try.f4 Rows.termsOrderRow.domain false) (Rows.termsOrderSpec.post enc Try.prog Try.f4 false true false false) := by
  refine returnsInHanded_of_change_sized (C := Try.checked) own started (by kernel_rfl) Try.func4
    (ChangeSpec.witness6 (enc := enc) (C := Try.checked) false ⟨#[], #[.agg #[.int .i64 0, .int .i64 0, .slice none 0 0, .slice none 0 0], .agg #[.int .i64 0, .int .i64 0, .slice none 0 0, .slice none 0 0]], []⟩ 8 (by kernel_rfl) (by kernel_rfl) (by kernel_rfl) (by kernel_rfl)) ?_
  intro W base args ds gs before hval0 hW hcnd hsz0 _
  have hval : ∀ (j : Nat) t v, Try.f4.params[j]? = some t → args[j]? = some v → Value.okWide Try.prog W .any base t v := hval0
  have hW' := hW
  obtain ⟨p, q, hA0, hV, rfl, hfz, hnd⟩ := hW
  have hA : DataW.TrodAll enc Try.prog W 0 (fun _ => true) true Try.f4.params.toList args.toList ds p := hA0
  have hsz : (DataW.weightsEach Try.prog (Try.f4.params.toList ++ Rows.termsOrderSpec.plain.varTypes Try.prog) (ds ++ gs)).all (· ≤ reachBytes) = true := hsz0
  rw [Try.params4] at hA hval hsz
  obtain ⟨v0, vs0, d0, ds0, p0, q0, hargs, rfl, rfl, h0, r_0⟩ := trodAll_cons hA
  obtain ⟨v1, vs1, d1, ds1, p1, q1, rfl, rfl, rfl, h1, r_1⟩ := trodAll_cons r_0
  obtain ⟨rfl, rfl, rfl⟩ := trodAll_nil r_1
  obtain rfl : args = #[v0, v1] := by cases args; simp_all
  obtain ⟨rfl, rfl⟩ := trodVars_none hV
  have k0 := h0
  have lt0 : ∀ x ∈ p0, x.block < W.heap.size := by obtain ⟨m, hm⟩ := k0; exact DataW.trod_lt m _ _ _ hm
  obtain ⟨n0, c0_0, c0_1, c0_2, c0_3, rfl, w0, z0⟩ := tmc.open_tm ({ U := _, f0 := _, f1 := _, f2 := _, f3 := _, hT := Try.underlying26, hone := by kernel_rfl, hC := by kernel_rfl, e0 := Try.underlying22, e1 := Try.underlying2, e2 := Try.underlying23, eU := Try.underlying5, cU := by kernel_rfl, bU := by kernel_rfl, e3 := Try.underlying24 }) (hval 0 26 v0 rfl rfl) h0
  have y0 := z0 (tmc.each_fit hsz (j := 0) rfl rfl)
  have k1 := h1
  have lt1 : ∀ x ∈ p1, x.block < W.heap.size := by obtain ⟨m, hm⟩ := k1; exact DataW.trod_lt m _ _ _ hm
  obtain ⟨n1, c1_0, c1_1, c1_2, c1_3, rfl, w1, z1⟩ := tmc.open_tm ({ U := _, f0 := _, f1 := _, f2 := _, f3 := _, hT := Try.underlying26, hone := by kernel_rfl, hC := by kernel_rfl, e0 := Try.underlying22, e1 := Try.underlying2, e2 := Try.underlying23, eU := Try.underlying5, cU := by kernel_rfl, bU := by kernel_rfl, e3 := Try.underlying24 }) (hval 1 26 v1 rfl rfl) h1
  have y1 := z1 (tmc.each_fit hsz (j := 1) rfl rfl)
  clear hA0 hval0
  refine (walk n0 c0_0 c0_1 c0_2 c0_3 n1 c1_0 c1_1 c1_2 c1_3 W w0 y0 w1 y1).mono fun e W' ⟨he, bel⟩ => ?_
  subst he
  exact ⟨_, rfl, _, _, _, [], _, [], hW', trodAll_mk1 (shut_bool Try.underlying4 _), (trodAll_cons_mk (Below.trod laidOut (by kernel_rfl) (of_decide_eq_true (by kernel_rfl)) k0 bel lt0) (trodAll_cons_mk (Below.trod laidOut (by kernel_rfl) (of_decide_eq_true (by kernel_rfl)) k1 bel lt1) trodAll_mk0)), rfl, bel.frame _, fun h => by cases h⟩

theorem over : Rows.termsOrderRow.holds Try.pinned (OpenSpec.ofChange Rows.termsOrderSpec) :=
  OpenClaim.holds_of_wide 4 Try.f4 rfl rfl rfl rfl rfl rfl rfl ⟨rfl, rfl, rfl, rfl, rfl⟩ rfl rfl rfl rfl rfl (by kernel_rfl) Try.func4 (by kernel_rfl)
    (of_decide_eq_true (by kernel_rfl)) (by unfold Func.isWrapper; first | (rw [if_pos (by decide +kernel)]; kernel_rfl) | (rw [if_neg (by decide +kernel)]; exact ⟨rfl, rfl⟩))
    (fun os started H enc _ => lifted os started H enc)

theorem proved : Rows.TermsOrderSaid := over
#print axioms proved
end Go.Proofs.Ytoaacacbjimloaa.termsOrder
