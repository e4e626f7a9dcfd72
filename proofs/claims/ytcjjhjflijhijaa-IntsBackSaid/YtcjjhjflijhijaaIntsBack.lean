/- The law IntsBack of warderlaw02 answers true for every number, all arcs, every mask and every body, and leaves its arguments as they were; no condition. -/
import Derived.Test.YtcjjhjflijhijaaRows
import Derived.WalkKit
import Derived.ProofKit
import Derived.OpenShut
import Derived.ChangeOld
import Derived.Below
import Derived.SizedLaws
import Derived.Test.YtcjjhjflijhijaaTlvO
import Derived.Test.YtcjjhjflijhijaaKitP
import Derived.Test.YtcjjhjflijhijaaIntAE
import Derived.Deep.RegionHeld3
import Derived.Deep.DeepCutAuto
namespace Go.Proofs.Ytcjjhjflijhijaa.intsBack
open Go.ChangeShapes Go.WideShapes Go.ChangeAt Go.RowKit
set_option linter.unusedVariables false

theorem own : ownKnob Try.prog.godebug = none := by kernel_rfl
theorem laidOut : laidOutB Try.prog = true := by kernel_rfl

open Go.Proofs.Ytcjjhjflijhijaa.tlvc Go.Proofs.Ytcjjhjflijhijaa.intc Go.Proofs.Ytcjjhjflijhijaa.intm
/-- The four conversions of the law's regions that draw, under names of their own. -/
def cvA : Op := Op.convert 22 9 (Operand.tmp 76)
def cvB : Op := Op.convert 22 9 (Operand.tmp 78)
def cvC : Op := Op.convert 22 9 (Operand.tmp 91)
def cvD : Op := Op.convert 22 9 (Operand.tmp 93)
theorem cvA_eq : cvA = Op.convert 22 9 (Operand.tmp 76) := rfl
theorem cvB_eq : cvB = Op.convert 22 9 (Operand.tmp 78) := rfl
theorem cvC_eq : cvC = Op.convert 22 9 (Operand.tmp 91) := rfl
theorem cvD_eq : cvD = Op.convert 22 9 (Operand.tmp 93) := rfl

set_option maxRecDepth 100000 in
set_option maxHeartbeats 8000000 in
theorem walk (a0 : Int) (a1 : Option Addr) (len1 cap1 : Nat) (x1 : List Int) (a2 : Int) (a3 : Option Addr) (len3 cap3 : Nat) (x3 : List Int) (w : World) (w0 : (Lit.int .i64 a0).wf = true) (w1 : tlvc.Ins w a1 len1 x1) (l1 : len1 ≤ cap1) (r1 : cap1 ≤ 17592186043904) (w2 : (Lit.int .u16 a2).wf = true) (w3 : tlvc.Bys w a3 len3 x3) (l3 : len3 ≤ cap3) (r3 : cap3 ≤ 140737488351232) :
    Calls Try.prog 7 #[.int .i64 a0, .slice a1 len1 cap1, .int .u16 a2, .slice a3 len3 cap3] w fun e w' => e = .returned (.bool true) ∧ Below w.heap.size w w' := by
  have hn := i64_of w0
  have hm : U16 a2 := by have := bounds_u16 w2; unfold U16; omega
  have hmx : cap1 ≤ maxLen := by unfold maxLen; omega
  have hmy : cap3 ≤ maxLen := by unfold maxLen; omega
  go_enter Try.func7, Try.ntmps7
  go_wp2_with fail
  refine (head_any _).mono ?_
  rintro e wa ⟨rfl, hba⟩
  go_wp2_with fail
  refine (putInt_any _ _ hn).mono ?_
  rintro e wb ⟨A1, c1, rfl, hh1, hb1⟩
  have hB1 := then_ hba hb1
  clear hba hb1
  go_wp2_with fail
  refine (int_any _ _ _ _ _ hh1.1 hh1.2.1 hh1.2.2.1).mono ?_
  rw [intF_put hn]
  rintro e wc ⟨rfl, hbc⟩
  have hB2 := then_ hB1 hbc
  clear hB1 hbc hh1
  go_wp2_with fail
  refine (putBits_any _ _ hm).mono ?_
  rintro e wd ⟨A2, c2, rfl, hh2, hb2⟩
  have hB3 := then_ hB2 hb2
  clear hB2 hb2
  go_wp2_with fail
  refine (bits_any _ _ _ _ _ hh2.1 hh2.2.1 hh2.2.2.1).mono ?_
  rw [bitsF_put hm]
  rintro e we ⟨rfl, hbe⟩
  have hB4 := then_ hB3 hbe
  clear hB3 hbe hh2
  obtain ⟨Y, hY⟩ : ∃ Y, (putO x1).1 = Y := ⟨_, rfl⟩
  obtain ⟨E, hE⟩ : ∃ E, (putO x1).2 = E := ⟨_, rfl⟩
  obtain ⟨X, hX⟩ : ∃ X, (oidF Y).1 = X := ⟨_, rfl⟩
  obtain ⟨F, hF⟩ : ∃ F, (oidF Y).2 = F := ⟨_, rfl⟩
  have HY := Lib.hid hY
  have HE := Lib.hid hE
  have HX := Lib.hid hX
  have HF := Lib.hid hF
  clear hY hE hX hF
  go_wp2_with fail
  refine (putOID_any _ _ _ _ _ (w1.below hB4) l1 hmx).mono ?_
  rw [HY.out, HE.out]
  rintro e wf ⟨A3, c3, rfl, hh3, hb3⟩
  have hB5 := then_ hB4 hb3
  clear hB4 hb3
  go_wp2_with fail
  refine (oid_any _ _ _ _ _ hh3.1 hh3.2.1 hh3.2.2.1).mono ?_
  rw [HX.out, HF.out]
  rintro e wg ⟨A4, c4, rfl, hh4, hb4⟩
  have hB6 := then_ hB5 hb4
  clear hB5 hb4 hh3
  go_upto_region 8 with fail
  go_cut [66] (fun s66 wx => s66 = .bool false ∧ Below w.heap.size w wx)
  case first =>
    by_cases ho : objB x1 = true
    · have e0 : E = 0 := by rw [← HE.out]; unfold putO; rw [if_pos ho]
      have hy : Y = encO x1 := by rw [← HY.out]; unfold putO; rw [if_pos ho]
      have hoid : oidF Y = (x1, 0) := by rw [hy]; exact oidF_enc ho
      have f0 : F = 0 := by rw [← HF.out, hoid]
      have hx : X = x1 := by rw [← HX.out, hoid]
      subst e0 f0 hx
      clear ho hy hoid
      go_wp2_with fail
      refine (same_any _ _ _ _ _ _ _ _ _ hh4.1 (w1.below hB6) (Nat.le_trans hh4.2.1 hh4.2.2.1)).mono ?_
      rw [show decide (X = X) = true from by simp]
      rintro e wh ⟨rfl, q, rfl⟩
      go_wp2_with fail
      go_meet
      exact ⟨rfl, hB6.trans ((below_drewN q).mono hB6.size)⟩
    · have e22 : E = 22 := by rw [← HE.out]; unfold putO; rw [if_neg ho]
      subst e22
      clear ho
      go_wp2_with fail
      go_meet
      exact ⟨rfl, hB6⟩
  case rest =>
    obtain ⟨rfl, hB7⟩ := hcut
    clear hB6 hh4 HY HE HX HF
    go_wp2_with fail
    refine (int_any _ _ _ _ _ (w3.below hB7) l3 hmy).mono ?_
    obtain ⟨N, hN⟩ : ∃ N, (intF x3).1 = N := ⟨_, rfl⟩
    obtain ⟨G, hG⟩ : ∃ G, (intF x3).2 = G := ⟨_, rfl⟩
    rw [hN, hG]
    have HN := Lib.hid hN
    have HG := Lib.hid hG
    clear hN hG
    rintro e wi ⟨rfl, hbi⟩
    have hB8 := then_ hB7 hbi
    clear hB7 hbi
    go_upto_region 11 with fail
    go_cut [81] (fun s81 wx => s81 = .bool false ∧ Below w.heap.size w wx)
    case first =>
      have hx8 : Bys wi.drew a3 len3 x3 := w3.below hB8.drew
      rcases intF_ways x3 w3.fit with ⟨v, hv1, hv2, hv3⟩ | hv
      · have e1 : N = v := by rw [← HN.out, hv3]
        have e2 : G = 0 := by rw [← HG.out, hv3]
        subst e1 e2
        have hsame : ((strOfNums (putI N)).toList == (strOfNums x3).toList) = true := (sameB_iff (putI_bytes N) w3.fit).2 hv2
        have s3 := str_now hx8 cap3
        have hcA := cvA_eq
        have hcB := cvB_eq
        have HB := Lib.hid hB8
        have HX := Lib.hid hx8
        clear hv2 hv3 hB8 hx8
        rw [← cvA_eq, ← cvB_eq]
        go_region_held3 (fun _ => True) (trivial) ((first | (go_at_call 15; refine (putInt_any _ _ hv1).mono ?_; rintro e wp ⟨A5, c5, rfl, hh5, hb5⟩; have s5 := str_now hh5.1 c5; have s6 := str_now (HX.out.below hb5) cap3)))
        all_goals (go_wp2_with fail; go_meet; exact ⟨rfl, then_ HB.out.drew hb5⟩)
      · have e2 : G = 21 := by rw [← HG.out, hv]
        subst e2
        go_quiet (fail)
        go_wp2_with fail
        go_meet
        exact ⟨rfl, hB8.trans ((below_drewN _).mono hB8.size)⟩
    case rest =>
      obtain ⟨rfl, hB9⟩ := hcut
      clear hB8 HN HG
      go_wp2_with fail
      refine (bits_any _ _ _ _ _ (w3.below hB9) l3 hmy).mono ?_
      obtain ⟨M, hM⟩ : ∃ M, (bitsF x3).1 = M := ⟨_, rfl⟩
      obtain ⟨G2, hG2⟩ : ∃ G2, (bitsF x3).2 = G2 := ⟨_, rfl⟩
      rw [hM, hG2]
      have HM := Lib.hid hM
      have HG2 := Lib.hid hG2
      clear hM hG2
      rintro e wj ⟨rfl, hbj⟩
      have hB10 := then_ hB9 hbj
      clear hB9 hbj
      go_upto_region 14 with fail
      go_cut [96] (fun s96 wx => s96 = .bool false ∧ Below w.heap.size w wx)
      case first =>
        have hx8 : Bys wj.drew a3 len3 x3 := w3.below hB10.drew
        rcases bitsF_ways x3 with ⟨v, hv1, hv2, hv3⟩ | hv
        · have e1 : M = v := by rw [← HM.out, hv3]
          have e2 : G2 = 0 := by rw [← HG2.out, hv3]
          subst e1 e2
          have hsame : ((strOfNums (putM M)).toList == (strOfNums x3).toList) = true := (sameB_iff (putM_bytes M hv1) w3.fit).2 hv2
          have s3 := str_now hx8 cap3
          have hcC := cvC_eq
          have hcD := cvD_eq
          have HB := Lib.hid hB10
          have HX := Lib.hid hx8
          clear hv2 hv3 hB10 hx8
          rw [← cvC_eq, ← cvD_eq]
          go_region_held3 (fun _ => True) (trivial) ((first | (go_at_call 28; refine (putBits_any _ _ hv1).mono ?_; rintro e wp ⟨A5, c5, rfl, hh5, hb5⟩; have s5 := str_now hh5.1 c5; have s6 := str_now (HX.out.below hb5) cap3)))
          all_goals (go_wp2_with fail; go_meet; exact ⟨rfl, then_ HB.out.drew hb5⟩)
        · have e2 : G2 = 24 := by rw [← HG2.out, hv]
          subst e2
          go_quiet (fail)
          go_wp2_with fail
          go_meet
          exact ⟨rfl, hB10.trans ((below_drewN _).mono hB10.size)⟩
      case rest =>
        obtain ⟨rfl, hB11⟩ := hcut
        clear hB10 HM HG2
        go_wp2_with fail
        refine (oid_any _ _ _ _ _ (w3.below hB11) l3 hmy).mono ?_
        rcases oidF_ways x3 with ⟨v, hv1, hv2, hv3⟩ | hv
        · rw [hv3]
          have HV2 := Lib.hid hv2
          clear hv2 hv3
          rintro e wk ⟨A6, c6, rfl, hh6, hb6⟩
          have hB12 := then_ hB11 hb6
          clear hB11 hb6
          go_wp2_with fail
          refine (putOID_any _ _ _ _ _ hh6.1 hh6.2.1 hh6.2.2.1).mono ?_
          rw [putO_yes hv1]
          simp only [HV2.out]
          rintro e wl ⟨A7, c7, rfl, hh7, hb7⟩
          have hB13 := then_ hB12 hb7
          have s7 := str_now hh7.1 c7
          have s8 := str_now (w3.below hB13) cap3
          clear hB12 hb7 hh6
          go_wp2
          go_ret
          exact ⟨rfl, hB13⟩
        · rw [hv]
          clear hv
          rintro e wk ⟨A6, c6, rfl, hh6, hb6⟩
          have hB12 := then_ hB11 hb6
          clear hB11 hb6
          go_wp2
          go_ret
          exact ⟨rfl, hB12⟩

set_option maxRecDepth 100000 in
theorem lifted (os : Os) (started : os.Started) (H : Type) (enc : TypeId × Value → H) :
    ReturnsInHanded {} Try.checked os 7 .any (Rows.intsBackSpec.pre6 enc Try.prog Try.f7 Rows.intsBackRow.domain false) (Rows.intsBackSpec.post enc Try.prog Try.f7 false true false false) := by
  refine returnsInHanded_of_change_sized (C := Try.checked) own started (by kernel_rfl) Try.func7
    (ChangeSpec.witness6 (enc := enc) (C := Try.checked) false ⟨#[], #[.int .i64 0, .slice none 0 0, .int .u16 0, .slice none 0 0], []⟩ 8 (by kernel_rfl) (by kernel_rfl) (by kernel_rfl) (by kernel_rfl)) ?_
  intro W base args ds gs before hval0 hW hcnd hsz0 _
  have hval : ∀ (j : Nat) t v, Try.f7.params[j]? = some t → args[j]? = some v → Value.okWide Try.prog W .any base t v := hval0
  have hW' := hW
  obtain ⟨p, q, hA0, hV, rfl, hfz, hnd⟩ := hW
  have hA : DataW.TrodAll enc Try.prog W 0 (fun _ => true) true Try.f7.params.toList args.toList ds p := hA0
  have hsz : (DataW.weightsEach Try.prog (Try.f7.params.toList ++ Rows.intsBackSpec.plain.varTypes Try.prog) (ds ++ gs)).all (· ≤ reachBytes) = true := hsz0
  rw [Try.params7] at hA hval hsz
  obtain ⟨v0, vs0, d0, ds0, p0, q0, hargs, rfl, rfl, h0, r_0⟩ := trodAll_cons hA
  obtain ⟨v1, vs1, d1, ds1, p1, q1, rfl, rfl, rfl, h1, r_1⟩ := trodAll_cons r_0
  obtain ⟨v2, vs2, d2, ds2, p2, q2, rfl, rfl, rfl, h2, r_2⟩ := trodAll_cons r_1
  obtain ⟨v3, vs3, d3, ds3, p3, q3, rfl, rfl, rfl, h3, r_3⟩ := trodAll_cons r_2
  obtain ⟨rfl, rfl, rfl⟩ := trodAll_nil r_3
  obtain rfl : args = #[v0, v1, v2, v3] := by cases args; simp_all
  obtain ⟨rfl, rfl⟩ := trodVars_none hV
  obtain ⟨a0, rfl, rfl, rfl, w0⟩ := open_int Try.underlying2 (hval 0 2 v0 rfl rfl) h0
  obtain ⟨a1, len1, cap1, rfl⟩ := okWide_slice Try.underlying29 (hval 1 29 v1 rfl rfl)
  have k1 := h1
  have lt1 : ∀ x ∈ p1, x.block < W.heap.size := by obtain ⟨m, hm⟩ := k1; exact DataW.trod_lt m _ _ _ hm
  obtain ⟨x1, w1, l1, m1, s1⟩ := tlvc.open_ins Try.underlying29 Try.underlying3 (by kernel_rfl) h1
  have r1 := tlvc.spots_reach8 hsz s1 (j := 1) rfl rfl Try.underlying29 (of_decide_eq_true (by kernel_rfl))
  obtain ⟨a2, rfl, rfl, rfl, w2⟩ := open_int Try.underlying40 (hval 2 40 v2 rfl rfl) h2
  obtain ⟨a3, len3, cap3, rfl⟩ := okWide_slice Try.underlying22 (hval 3 22 v3 rfl rfl)
  have k3 := h3
  have lt3 : ∀ x ∈ p3, x.block < W.heap.size := by obtain ⟨m, hm⟩ := k3; exact DataW.trod_lt m _ _ _ hm
  obtain ⟨x3, w3, l3, m3, s3⟩ := tlvc.open_bys Try.underlying22 Try.underlying5 (by kernel_rfl) h3
  have r3 := tlvc.spots_reach hsz s3 (j := 3) rfl rfl Try.underlying22 (of_decide_eq_true (by kernel_rfl))
  clear hA0 hval0
  refine (walk a0 a1 len1 cap1 x1 a2 a3 len3 cap3 x3 W w0 w1 l1 r1 w2 w3 l3 r3).mono fun e W' ⟨he, bel⟩ => ?_
  subst he
  exact ⟨_, rfl, _, _, _, [], _, [], hW', trodAll_mk1 (shut_bool Try.underlying4 _), (trodAll_cons_mk (shut_int Try.underlying2 w0) (trodAll_cons_mk (Below.trod laidOut (by kernel_rfl) (of_decide_eq_true (by kernel_rfl)) k1 bel lt1) (trodAll_cons_mk (shut_int Try.underlying40 w2) (trodAll_cons_mk (Below.trod laidOut (by kernel_rfl) (of_decide_eq_true (by kernel_rfl)) k3 bel lt3) trodAll_mk0)))), rfl, bel.frame _, fun h => by cases h⟩

theorem over : Rows.intsBackRow.holds Try.pinned (OpenSpec.ofChange Rows.intsBackSpec) :=
  OpenClaim.holds_of_wide 7 Try.f7 rfl rfl rfl rfl rfl rfl rfl ⟨rfl, rfl, rfl, rfl, rfl⟩ rfl rfl rfl rfl rfl (by kernel_rfl) Try.func7 (by kernel_rfl)
    (of_decide_eq_true (by kernel_rfl)) (by unfold Func.isWrapper; first | (rw [if_pos (by decide +kernel)]; kernel_rfl) | (rw [if_neg (by decide +kernel)]; exact ⟨rfl, rfl⟩))
    (fun os started H enc _ => lifted os started H enc)

theorem proved : Rows.IntsBackSaid := over
#print axioms proved
end Go.Proofs.Ytcjjhjflijhijaa.intsBack
