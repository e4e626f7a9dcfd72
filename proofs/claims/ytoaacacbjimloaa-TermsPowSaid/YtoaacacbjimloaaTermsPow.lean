/- The law TermsPow of warderlaw05 answers true for every two terms, and leaves its arguments as they were; no condition. -/
import Derived.Test.YtoaacacbjimloaaRows
import Derived.WalkKit
import Derived.ProofKit
import Derived.OpenShut
import Derived.ChangeOld
import Derived.Below
import Derived.SizedLaws
import Derived.Test.YtoaacacbjimloaaTlvO
import Derived.Test.YtoaacacbjimloaaTmOp
import Derived.Test.YtoaacacbjimloaaTmL
import Derived.Test.YtoaacacbjimloaaTmV
namespace Go.Proofs.Ytoaacacbjimloaa.termsPow
open Go.ChangeShapes Go.WideShapes Go.ChangeAt Go.RowKit
set_option linter.unusedVariables false

theorem own : ownKnob Try.prog.godebug = none := by kernel_rfl
theorem laidOut : laidOutB Try.prog = true := by kernel_rfl

open Go.Proofs.Ytoaacacbjimloaa.tlvc Go.Proofs.Ytoaacacbjimloaa.tmc

set_option maxRecDepth 100000 in
set_option maxHeartbeats 16000000 in
theorem walk (n0 : tmc.Tm) (c0_0 c0_1 c0_2 c0_3 : Value) (n1 : tmc.Tm) (c1_0 c1_1 c1_2 c1_3 : Value) (w : World) (w0 : tmc.TmC (fun _ => True) w n0 c0_0 c0_1 c0_2 c0_3) (y0 : tmc.fitD n0) (w1 : tmc.TmC (fun _ => True) w n1 c1_0 c1_1 c1_2 c1_3) (y1 : tmc.fitD n1) :
    Calls Try.prog 6 #[.agg #[c0_0, c0_1, c0_2, c0_3], .agg #[c1_0, c1_1, c1_2, c1_3]] w fun e w' => e = .returned (.bool true) ∧ Below w.heap.size w w' := by
  obtain ⟨o0, m0, A0, la0, ca0, K0, lk0, ck0, rfl, rfl, rfl, rfl⟩ := w0.shape
  obtain ⟨o1, m1, A1, la1, ca1, K1, lk1, ck1, rfl, rfl, rfl, rfl⟩ := w1.shape
  obtain ⟨W0, hW0⟩ : ∃ y, (w.alloc (.cells #[.int .i64 o0, .int .i64 m0, .slice A0 la0 ca0, .slice K0 lk0 ck0] 26)).alloc (.cells #[.int .i64 o1, .int .i64 m1, .slice A1 la1 ca1, .slice K1 lk1 ck1] 26) = y := ⟨_, rfl⟩
  have hb0 : Below w.heap.size w W0 := by rw [← hW0]; exact (below_new _ _).alloc (by simp) _
  have hq0 : W0.heap[w.heap.size]? = some (.cells #[.int .i64 o0, .int .i64 m0, .slice A0 la0 ca0, .slice K0 lk0 ck0] 26) := by rw [← hW0, heap_old_ _ _ (by simp)]; exact heap_new_ _ _
  have hk0 := TmC.below hb0 _ _ _ _ _ w0
  have hq1 : W0.heap[w.heap.size + 1]? = some (.cells #[.int .i64 o1, .int .i64 m1, .slice A1 la1 ca1, .slice K1 lk1 ck1] 26) := by
    rw [← hW0]
    have := heap_new_ (w.alloc (.cells #[.int .i64 o0, .int .i64 m0, .slice A0 la0 ca0, .slice K0 lk0 ck0] 26)) (.cells #[.int .i64 o1, .int .i64 m1, .slice A1 la1 ca1, .slice K1 lk1 ck1] 26)
    rwa [show (w.alloc (.cells #[.int .i64 o0, .int .i64 m0, .slice A0 la0 ca0, .slice K0 lk0 ck0] 26)).heap.size = w.heap.size + 1 by simp] at this
  have hk1 := TmC.below hb0 _ _ _ _ _ w1
  have hbox : ∀ W, Lat W0 W → W.cell? ⟨w.heap.size, 0, none⟩ = some (.int .i64 o0) ∧ W.cell? ⟨w.heap.size, 1, none⟩ = some (.int .i64 m0) ∧ W.cell? ⟨w.heap.size, 2, none⟩ = some (.slice A0 la0 ca0) ∧ W.cell? ⟨w.heap.size, 3, none⟩ = some (.slice K0 lk0 ck0) ∧ W.cell? ⟨w.heap.size + 1, 0, none⟩ = some (.int .i64 o1) ∧ W.cell? ⟨w.heap.size + 1, 1, none⟩ = some (.int .i64 m1) ∧ W.cell? ⟨w.heap.size + 1, 2, none⟩ = some (.slice A1 la1 ca1) ∧ W.cell? ⟨w.heap.size + 1, 3, none⟩ = some (.slice K1 lk1 ck1) ∧ Lat W0 W := fun W hW => by
    obtain ⟨a0, b0, c0, d0⟩ := hW.box hq0
    obtain ⟨a1, b1, c1, d1⟩ := hW.box hq1
    exact ⟨a0, b0, c0, d0, a1, b1, c1, d1, hW⟩
  have hgreat0 := fun W (hW : Lat W0 W) => great_any (fun _ => True) n0 (.agg #[.int .i64 o0, .int .i64 m0, .slice A0 la0 ca0, .slice K0 lk0 ck0]) W ⟨_, _, _, _, rfl, hW.tm hk0⟩
  have hbd0 : greatB n0 = false → szT n0 ≤ 2000 := fun h => great_no h
  obtain ⟨G0, hG0⟩ : ∃ y, greatB n0 = y := ⟨_, rfl⟩
  rw [hG0] at hgreat0 hbd0
  have hgreat1 := fun W (hW : Lat W0 W) => great_any (fun _ => True) n1 (.agg #[.int .i64 o1, .int .i64 m1, .slice A1 la1 ca1, .slice K1 lk1 ck1]) W ⟨_, _, _, _, rfl, hW.tm hk1⟩
  have hbd1 : greatB n1 = false → szT n1 ≤ 2000 := fun h => great_no h
  obtain ⟨G1, hG1⟩ : ∃ y, greatB n1 = y := ⟨_, rfl⟩
  rw [hG1] at hgreat1 hbd1
  have hpow := fun (hs : szT n0 + szT n1 ≤ 100000) W (hW : Lat W0 W) => pow_any n0 n1 (fun _ => True) (fun _ => True) (.agg #[.int .i64 o0, .int .i64 m0, .slice A0 la0 ca0, .slice K0 lk0 ck0]) (.agg #[.int .i64 o1, .int .i64 m1, .slice A1 la1 ca1, .slice K1 lk1 ck1]) W ⟨_, _, _, _, rfl, hW.tm hk0⟩ ⟨_, _, _, _, rfl, hW.tm hk1⟩ hs
  have hrpow := fun (hs : szT n0 + szT n1 ≤ 100000) W (hW : Lat W0 W) => rpow_all n0 n1 (fun _ => True) (fun _ => True) (.agg #[.int .i64 o0, .int .i64 m0, .slice A0 la0 ca0, .slice K0 lk0 ck0]) (.agg #[.int .i64 o1, .int .i64 m1, .slice A1 la1 ca1, .slice K1 lk1 ck1]) W ⟨_, _, _, _, rfl, hW.tm hk0⟩ ⟨_, _, _, _, rfl, hW.tm hk1⟩ hs
  obtain ⟨PW, hPW⟩ : ∃ y, powF n0 n1 = y := ⟨_, rfl⟩
  rw [hPW] at hpow hrpow
  have HBOX := Lib.hid hbox
  have HG0 := Lib.hid hgreat0
  have HG1 := Lib.hid hgreat1
  have HBD0 := Lib.hid hbd0
  have HBD1 := Lib.hid hbd1
  have HP := Lib.hid hpow
  have HRP := Lib.hid hrpow
  have HB0 := Lib.hid hb0
  clear hbox hgreat0 hgreat1 hbd0 hbd1 hpow hrpow hb0 hG0 hG1 hPW hq0 hq1 hk0 hk1 w0 w1
  go_enter Try.func6, Try.ntmps6
  go_wp2_with fail
  clear hW0
  refine (head_any W0).mono ?_
  rintro e wa ⟨rfl, hba⟩
  have HLA : Lat W0 wa := hba
  obtain ⟨k0, k1, k2, k3, k4, k5, k6, k7, _⟩ := HBOX.out wa HLA
  have HL := Lib.hid HLA
  clear hba HLA
  go_wp2_with fail
  refine (HG0.out wa HL.out).mono ?_
  rintro e wb0 ⟨rfl, hbb⟩
  have hLb := HL.out.then_ hbb
  clear hbb HL k0 k1 k2 k3 k4 k5 k6 k7
  cases G0 with
  | true =>
    have hend := hLb.below HB0.out
    clear hLb
    go_wp2
    go_ret
    exact ⟨rfl, hend⟩
  | false =>
    obtain ⟨k0, k1, k2, k3, k4, k5, k6, k7, _⟩ := HBOX.out wb0 hLb
    have HL0 := Lib.hid hLb
    clear hLb
    go_wp2_with fail
    refine (HG1.out wb0 HL0.out).mono ?_
    rintro e wb1 ⟨rfl, hbb⟩
    have hLb := HL0.out.then_ hbb
    clear hbb HL0 k0 k1 k2 k3 k4 k5 k6 k7
    cases G1 with
    | true =>
      have hend := hLb.below HB0.out
      clear hLb
      go_wp2
      go_ret
      exact ⟨rfl, hend⟩
    | false =>
      have hz0 := HBD0.out (by first | rfl | trivial)
      have hz1 := HBD1.out (by first | rfl | trivial)
      have hp := HP.out (by omega) wb1 hLb
      have hrp := HRP.out (by omega)
      have HP5 := Lib.hid hp
      have HRP' := Lib.hid hrp
      obtain ⟨k0, k1, k2, k3, k4, k5, k6, k7, _⟩ := HBOX.out wb1 hLb
      have HL1 := Lib.hid hLb
      clear hLb hp hrp HP HRP HBD0 HBD1 hz0 hz1
      go_wp2_with fail
      refine HP5.out.mono ?_
      rintro e w5 ⟨v5, rfl, ⟨q0, q1, q2, q3, rfl, hk5⟩, hb5⟩
      obtain ⟨o5, m5, A5, la5, ca5, K5, lk5, ck5, rfl, rfl, rfl, rfl⟩ := hk5.shape
      obtain ⟨W5, hW5⟩ : ∃ y, w5.alloc (.cells #[.int .i64 o5, .int .i64 m5, .slice A5 la5 ca5, .slice K5 lk5 ck5] 26) = y := ⟨_, rfl⟩
      have hbn : Below w5.heap.size w5 W5 := by rw [← hW5]; exact below_new _ _
      have hqn : W5.heap[w5.heap.size]? = some (.cells #[.int .i64 o5, .int .i64 m5, .slice A5 la5 ca5, .slice K5 lk5 ck5] 26) := by rw [← hW5]; exact heap_new_ _ _
      have hL5 : Lat W0 W5 := (HL1.out.then_ hb5).then_ hbn
      have hk5' := TmC.below hbn _ _ _ _ _ hk5
      have hbx : ∀ W, Lat W5 W → W.cell? ⟨w.heap.size, 0, none⟩ = some (.int .i64 o0) ∧ W.cell? ⟨w.heap.size, 1, none⟩ = some (.int .i64 m0) ∧ W.cell? ⟨w.heap.size, 2, none⟩ = some (.slice A0 la0 ca0) ∧ W.cell? ⟨w.heap.size, 3, none⟩ = some (.slice K0 lk0 ck0) ∧ W.cell? ⟨w.heap.size + 1, 0, none⟩ = some (.int .i64 o1) ∧ W.cell? ⟨w.heap.size + 1, 1, none⟩ = some (.int .i64 m1) ∧ W.cell? ⟨w.heap.size + 1, 2, none⟩ = some (.slice A1 la1 ca1) ∧ W.cell? ⟨w.heap.size + 1, 3, none⟩ = some (.slice K1 lk1 ck1) ∧ W.cell? ⟨w5.heap.size, 0, none⟩ = some (.int .i64 o5) ∧ W.cell? ⟨w5.heap.size, 1, none⟩ = some (.int .i64 m5) ∧ W.cell? ⟨w5.heap.size, 2, none⟩ = some (.slice A5 la5 ca5) ∧ W.cell? ⟨w5.heap.size, 3, none⟩ = some (.slice K5 lk5 ck5) := fun W hW => by
        obtain ⟨k0, k1, k2, k3, k4, k5, k6, k7, _⟩ := HBOX.out W (hL5.then_ hW)
        obtain ⟨p0, p1, p2, p3⟩ := hW.box hqn
        exact ⟨k0, k1, k2, k3, k4, k5, k6, k7, p0, p1, p2, p3⟩
      have hr5 := HRP'.out W5 hL5
      have HR5 := Lib.hid hr5
      have HBX5 := Lib.hid hbx
      have HL5 := Lib.hid hL5
      have HK5 := Lib.hid hk5'
      clear k0 k1 k2 k3 k4 k5 k6 k7
      obtain ⟨k0, k1, k2, k3, k4, k5, k6, k7, p0, p1, p2, p3⟩ := hbx W5 (Lat.refl _)
      clear hbx hr5 hL5 hk5' hk5 hb5 hbn hqn HP5 HRP'
      go_wp2_with fail
      clear hW5
      refine HR5.out.mono ?_
      rintro e w6 ⟨v6, rfl, ⟨q0, q1, q2, q3, rfl, hk6⟩, hb6⟩
      obtain ⟨o6, m6, A6, la6, ca6, K6, lk6, ck6, rfl, rfl, rfl, rfl⟩ := hk6.shape
      obtain ⟨W6, hW6⟩ : ∃ y, w6.alloc (.cells #[.int .i64 o6, .int .i64 m6, .slice A6 la6 ca6, .slice K6 lk6 ck6] 26) = y := ⟨_, rfl⟩
      have hbn : Below w6.heap.size w6 W6 := by rw [← hW6]; exact below_new _ _
      have hqn : W6.heap[w6.heap.size]? = some (.cells #[.int .i64 o6, .int .i64 m6, .slice A6 la6 ca6, .slice K6 lk6 ck6] 26) := by rw [← hW6]; exact heap_new_ _ _
      have hL56 : Lat W5 W6 := (show Lat W5 w6 from hb6).then_ hbn
      have hk6' := TmC.below hbn _ _ _ _ _ hk6
      have hsm := same_self (PW.getD (.mk 0 0 [] [])) _ _ (.agg #[.int .i64 o5, .int .i64 m5, .slice A5 la5 ca5, .slice K5 lk5 ck5]) (.agg #[.int .i64 o6, .int .i64 m6, .slice A6 la6 ca6, .slice K6 lk6 ck6]) W6 ⟨_, _, _, _, rfl, hL56.tm HK5.out⟩ ⟨_, _, _, _, rfl, hk6'⟩
      have HSM := Lib.hid hsm
      have HL6 := Lib.hid (HL5.out.then_ hL56)
      clear k0 k1 k2 k3 k4 k5 k6 k7 p0 p1 p2 p3
      obtain ⟨k0, k1, k2, k3, k4, k5, k6, k7, p0, p1, p2, p3⟩ := HBX5.out W6 hL56
      obtain ⟨r0, r1, r2, r3⟩ := Lat.box (Lat.refl W6) hqn
      have hbb : (PW.isSome == PW.isSome) = true := by simp
      clear hsm hk6' hk6 hb6 hbn hqn hL56 HR5
      go_wp2_with fail
      clear hW6
      refine HSM.out.mono ?_
      rintro e w7 ⟨rfl, hb7⟩
      have hend := (HL6.out.then_ hb7).below HB0.out
      clear HSM HL6 hb7 k0 k1 k2 k3 k4 k5 k6 k7 p0 p1 p2 p3 r0 r1 r2 r3
      go_wp2
      go_ret
      exact ⟨rfl, hend⟩

set_option maxRecDepth 100000 in
theorem lifted (os : Os) (started : os.Started) (H : Type) (enc : TypeId × Value → H) :
    ReturnsInHanded {} Try.checked os 6 .any (Rows.termsPowSpec.pre6 enc Try.prog Try.f6 Rows.termsPowRow.domain false) (Rows.termsPowSpec.post enc Try.prog Try.f6 false true false false) := by
  refine returnsInHanded_of_change_sized (C := Try.checked) own started (by kernel_rfl) Try.func6
    (ChangeSpec.witness6 (enc := enc) (C := Try.checked) false ⟨#[], #[.agg #[.int .i64 0, .int .i64 0, .slice none 0 0, .slice none 0 0], .agg #[.int .i64 0, .int .i64 0, .slice none 0 0, .slice none 0 0]], []⟩ 8 (by kernel_rfl) (by kernel_rfl) (by kernel_rfl) (by kernel_rfl)) ?_
  intro W base args ds gs before hval0 hW hcnd hsz0 _
  have hval : ∀ (j : Nat) t v, Try.f6.params[j]? = some t → args[j]? = some v → Value.okWide Try.prog W .any base t v := hval0
  have hW' := hW
  obtain ⟨p, q, hA0, hV, rfl, hfz, hnd⟩ := hW
  have hA : DataW.TrodAll enc Try.prog W 0 (fun _ => true) true Try.f6.params.toList args.toList ds p := hA0
  have hsz : (DataW.weightsEach Try.prog (Try.f6.params.toList ++ Rows.termsPowSpec.plain.varTypes Try.prog) (ds ++ gs)).all (· ≤ reachBytes) = true := hsz0
  rw [Try.params6] at hA hval hsz
  obtain ⟨v0, vs0, d0, ds0, p0, q0, hargs, rfl, rfl, h0, r_0⟩ := trodAll_cons hA
  obtain ⟨v1, vs1, d1, ds1, p1, q1, rfl, rfl, rfl, h1, r_1⟩ := trodAll_cons r_0
  obtain ⟨rfl, rfl, rfl⟩ := trodAll_nil r_1
  obtain rfl : args = #[v0, v1] := by cases args; simp_all
  obtain ⟨rfl, rfl⟩ := trodVars_none hV
  have k0 := h0
  have lt0 : ∀ x ∈ p0, x.block < W.heap.size := by obtain ⟨m, hm⟩ := k0; exact DataW.trod_lt m _ _ _ hm
  obtain ⟨n0, c0_0, c0_1, c0_2, c0_3, rfl, w0, z0⟩ := tmc.open_tm ({ U := _, f0 := _, f1 := _, f2 := _, f3 := _, hT := Try.underlying26, hone := by kernel_rfl, hC := by kernel_rfl, e0 := Try.underlying22, e1 := Try.underlying2, e2 := Try.underlying23, eU := Try.underlying5, cU := by kernel_rfl, bU := by kernel_rfl, e3 := Try.underlying24 }) (hval 0 26 v0 rfl rfl) h0
  have y0 := z0 (tmc.each_fit hsz (j := 0) rfl rfl)
  have k1 := h1
  have lt1 : ∀ x ∈ p1, x.block < W.heap.size := by obtain ⟨m, hm⟩ := k1; exact DataW.trod_lt m _ _ _ hm
  obtain ⟨n1, c1_0, c1_1, c1_2, c1_3, rfl, w1, z1⟩ := tmc.open_tm ({ U := _, f0 := _, f1 := _, f2 := _, f3 := _, hT := Try.underlying26, hone := by kernel_rfl, hC := by kernel_rfl, e0 := Try.underlying22, e1 := Try.underlying2, e2 := Try.underlying23, eU := Try.underlying5, cU := by kernel_rfl, bU := by kernel_rfl, e3 := Try.underlying24 }) (hval 1 26 v1 rfl rfl) h1
  have y1 := z1 (tmc.each_fit hsz (j := 1) rfl rfl)
  clear hA0 hval0
  refine (walk n0 c0_0 c0_1 c0_2 c0_3 n1 c1_0 c1_1 c1_2 c1_3 W w0 y0 w1 y1).mono fun e W' ⟨he, bel⟩ => ?_
  subst he
  exact ⟨_, rfl, _, _, _, [], _, [], hW', trodAll_mk1 (shut_bool Try.underlying4 _), (trodAll_cons_mk (Below.trod laidOut (by kernel_rfl) (of_decide_eq_true (by kernel_rfl)) k0 bel lt0) (trodAll_cons_mk (Below.trod laidOut (by kernel_rfl) (of_decide_eq_true (by kernel_rfl)) k1 bel lt1) trodAll_mk0)), rfl, bel.frame _, fun h => by cases h⟩

theorem over : Rows.termsPowRow.holds Try.pinned (OpenSpec.ofChange Rows.termsPowSpec) :=
  OpenClaim.holds_of_wide 6 Try.f6 rfl rfl rfl rfl rfl rfl rfl ⟨rfl, rfl, rfl, rfl, rfl⟩ rfl rfl rfl rfl rfl (by kernel_rfl) Try.func6 (by kernel_rfl)
    (of_decide_eq_true (by kernel_rfl)) (by unfold Func.isWrapper; first | (rw [if_pos (by decide +kernel)]; kernel_rfl) | (rw [if_neg (by decide +kernel)]; exact ⟨rfl, rfl⟩))
    (fun os started H enc _ => lifted os started H enc)

theorem proved : Rows.TermsPowSaid := over
#print axioms proved
end Go.Proofs.Ytoaacacbjimloaa.termsPow
