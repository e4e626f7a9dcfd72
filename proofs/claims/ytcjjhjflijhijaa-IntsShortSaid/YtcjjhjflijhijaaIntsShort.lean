/- The law IntsShort of warderlaw02 answers true for every number and every byte, and leaves its arguments as they were; no condition. -/
import Derived.Test.YtcjjhjflijhijaaRows
import Derived.WalkKit
import Derived.ProofKit
import Derived.OpenShut
import Derived.ChangeOld
import Derived.Below
import Derived.SizedLaws
import Derived.Test.YtcjjhjflijhijaaTlvO
import Derived.Test.YtcjjhjflijhijaaKitP
import Derived.Test.YtcjjhjflijhijaaIntAB
namespace Go.Proofs.Ytcjjhjflijhijaa.intsShort
open Go.ChangeShapes Go.WideShapes Go.ChangeAt Go.RowKit
set_option linter.unusedVariables false

theorem own : ownKnob Try.prog.godebug = none := by kernel_rfl
theorem laidOut : laidOutB Try.prog = true := by kernel_rfl

open Go.Proofs.Ytcjjhjflijhijaa.tlvc Go.Proofs.Ytcjjhjflijhijaa.intc Go.Proofs.Ytcjjhjflijhijaa.intm

set_option maxRecDepth 100000 in
set_option maxHeartbeats 8000000 in
theorem walk (a0 : Int) (a1 : Int) (w : World) (w0 : (Lit.int .i64 a0).wf = true) (w1 : (Lit.int .u8 a1).wf = true) :
    Calls Try.prog 9 #[.int .i64 a0, .int .u8 a1] w fun e w' => e = .returned (.bool true) ∧ Below w.heap.size w w' := by
  have hn := i64_of w0
  have hcb := bounds_u8 w1
  have hone := seven (show 0 ≤ a1 ∧ a1 ≤ 255 from hcb)
  have hand := hone.2
  have HONE := Lib.hid hone.1
  have hk1 := width_bd a0
  have hl1 := putI_length a0
  rw [← hl1] at hk1
  have hbytes := Lib.hid (putI_bytes a0)
  obtain ⟨L, hL⟩ : ∃ L, (putI a0).length = L := ⟨_, rfl⟩
  have hways := short_ways hn hL
  have hend := vS_end (k := L) hn hL.symm
  rw [hL] at hk1
  have HL := Lib.hid hL
  have HEND := Lib.hid hend
  clear hl1 hL hone hend
  go_enter Try.func9, Try.ntmps9
  go_wp2_with fail
  refine (head_any _).mono ?_
  rintro e wa ⟨rfl, hba⟩
  go_wp2_with fail
  refine (putInt_any _ _ hn).mono ?_
  rintro e wb ⟨A1, c1, rfl, hh1, hb1⟩
  rw [HL.out]
  have hB := then_ hba hb1
  have hbys := hh1.1
  rw [HL.out] at hbys
  obtain ⟨b, off, rfl, _, hcl⟩ := hbys.2.2 (by omega)
  have HC := Lib.hid hcl
  have hc0 : wb.cell? ⟨b, off, none⟩ = some (.int .u8 ((putI a0).getD 0 0)) := by simpa using hcl 0 (by omega)
  have hx0b := hbys.fit.getD 0
  have hx1b := hbys.fit.getD 1
  have hc1 : 1 < L → wb.cell? ⟨b, off + 1, none⟩ = some (.int .u8 ((putI a0).getD 1 0)) := fun h => hcl 1 h
  have hv0 : vS (putI a0) 0 = if 128 ≤ (putI a0).getD 0 0 then -1 else 0 := by unfold vS; rw [if_pos rfl]
  clear hcl hh1 hbys hba hb1
  obtain ⟨x0, hx0⟩ : ∃ x0, (putI a0).getD 0 0 = x0 := ⟨_, rfl⟩
  obtain ⟨x1, hx1⟩ : ∃ x1, (putI a0).getD 1 0 = x1 := ⟨_, rfl⟩
  rw [hx0] at hc0 hx0b hways hv0
  rw [hx1] at hc1 hx1b hways
  have HV0 := Lib.hid hv0
  clear hx0 hx1 hv0
  have d1 : decide ((L : Int) < 1) = false := by simp only [decide_eq_false_iff_not]; omega
  have d2 : decide ((8 : Int) < L) = false := by simp only [decide_eq_false_iff_not]; omega
  rcases hways with ⟨t1, t2, t3, t4⟩ | ⟨t1, t2, t3, t4⟩ | ⟨t1, t2, t3, t4⟩ | ⟨t1, t2, t3, t4⟩
  all_goals
    first
      | (replace hc1 := hc1 t1)
      | skip
    by_cases hx : 128 ≤ x0
    all_goals try (exfalso; simp only [beq_iff_eq] at t2 t3; omega)
    all_goals
      first
        | (have hv := HV0.out; rw [if_pos hx] at hv)
        | (have hv := HV0.out; rw [if_neg hx] at hv)
      have HV := Lib.hid hv
      clear hv
      go_wp2
      go_loop [7, 8] (fun x y => ∃ k : Nat, y = .int .i64 k ∧ k ≤ L ∧ x = .int .i64 (vS (putI a0) k)) (fun _ y => 9 - (intOf y).toNat)
      case atStart => exact ⟨0, rfl, by omega, by rw [HV.out]⟩
      case round =>
        obtain ⟨k, rfl, hk, rfl⟩ := hrel
        by_cases hlt : k < L
        · have hck := HC.out k hlt
          have hst := vS_step hbytes.out (show k < (putI a0).length by rw [HL.out]; exact hlt)
          have hrm := vS_room hbytes.out (show k ≤ 7 by omega)
          have hxb : 0 ≤ (putI a0).getD k 0 ∧ (putI a0).getD k 0 ≤ 255 := (show Fit (putI a0) from hbytes.out).getD k
          obtain ⟨x, hxx⟩ : ∃ x, (putI a0).getD k 0 = x := ⟨_, rfl⟩
          rw [hxx] at hck hst hxb
          have h3 := or_i64 8 (by decide) (vS (putI a0) k * 256) x (by unfold I64; omega) (by simp) (by omega) (by omega)
          have HST := Lib.hid hst
          clear hxx hst hc0 hc1
          go_wp2
          go_round
          case rel => exact ⟨k + 1, by go_num, by omega, by rw [HST.out]⟩
          case measure => simp [intOf]; omega
        · obtain rfl : k = L := by omega
          rw [HEND.out]
          clear hc0 hc1
          go_wp2_with fail
          refine (putInt_any _ _ (by unfold I64; omega)).mono ?_
          rw [HONE.out]
          rintro e wc ⟨A2, c2, rfl, hh2, hb2⟩
          have hB2 := then_ hB hb2
          obtain ⟨b2, off2, rfl, _, hcl2⟩ := hh2.1.2.2 (by simp)
          have hc20 : wc.cell? ⟨b2, off2, none⟩ = some (.int .u8 (a1 % 128)) := by simpa using hcl2 0 (by simp)
          clear hcl2 hh2 hb2 hB
          go_wp2
          go_ret
          exact ⟨rfl, hB2⟩

set_option maxRecDepth 100000 in
theorem lifted (os : Os) (started : os.Started) (H : Type) (enc : TypeId × Value → H) :
    ReturnsInHanded {} Try.checked os 9 .any (Rows.intsShortSpec.pre6 enc Try.prog Try.f9 Rows.intsShortRow.domain false) (Rows.intsShortSpec.post enc Try.prog Try.f9 false true false false) := by
  refine returnsInHanded_of_change_sized (C := Try.checked) own started (by kernel_rfl) Try.func9
    (ChangeSpec.witness6 (enc := enc) (C := Try.checked) false ⟨#[], #[.int .i64 0, .int .u8 0], []⟩ 8 (by kernel_rfl) (by kernel_rfl) (by kernel_rfl) (by kernel_rfl)) ?_
  intro W base args ds gs before hval0 hW hcnd hsz0 _
  have hval : ∀ (j : Nat) t v, Try.f9.params[j]? = some t → args[j]? = some v → Value.okWide Try.prog W .any base t v := hval0
  have hW' := hW
  obtain ⟨p, q, hA0, hV, rfl, hfz, hnd⟩ := hW
  have hA : DataW.TrodAll enc Try.prog W 0 (fun _ => true) true Try.f9.params.toList args.toList ds p := hA0
  have hsz : (DataW.weightsEach Try.prog (Try.f9.params.toList ++ Rows.intsShortSpec.plain.varTypes Try.prog) (ds ++ gs)).all (· ≤ reachBytes) = true := hsz0
  rw [Try.params9] at hA hval hsz
  obtain ⟨v0, vs0, d0, ds0, p0, q0, hargs, rfl, rfl, h0, r_0⟩ := trodAll_cons hA
  obtain ⟨v1, vs1, d1, ds1, p1, q1, rfl, rfl, rfl, h1, r_1⟩ := trodAll_cons r_0
  obtain ⟨rfl, rfl, rfl⟩ := trodAll_nil r_1
  obtain rfl : args = #[v0, v1] := by cases args; simp_all
  obtain ⟨rfl, rfl⟩ := trodVars_none hV
  obtain ⟨a0, rfl, rfl, rfl, w0⟩ := open_int Try.underlying2 (hval 0 2 v0 rfl rfl) h0
  obtain ⟨a1, rfl, rfl, rfl, w1⟩ := open_int Try.underlying5 (hval 1 5 v1 rfl rfl) h1
  clear hA0 hval0
  refine (walk a0 a1 W w0 w1).mono fun e W' ⟨he, bel⟩ => ?_
  subst he
  exact ⟨_, rfl, _, _, _, [], _, [], hW', trodAll_mk1 (shut_bool Try.underlying4 _), (trodAll_cons_mk (shut_int Try.underlying2 w0) (trodAll_cons_mk (shut_int Try.underlying5 w1) trodAll_mk0)), rfl, bel.frame _, fun h => by cases h⟩

theorem over : Rows.intsShortRow.holds Try.pinned (OpenSpec.ofChange Rows.intsShortSpec) :=
  OpenClaim.holds_of_wide 9 Try.f9 rfl rfl rfl rfl rfl rfl rfl ⟨rfl, rfl, rfl, rfl, rfl⟩ rfl rfl rfl rfl rfl (by kernel_rfl) Try.func9 (by kernel_rfl)
    (of_decide_eq_true (by kernel_rfl)) (by unfold Func.isWrapper; first | (rw [if_pos (by decide +kernel)]; kernel_rfl) | (rw [if_neg (by decide +kernel)]; exact ⟨rfl, rfl⟩))
    (fun os started H enc _ => lifted os started H enc)

theorem proved : Rows.IntsShortSaid := over
#print axioms proved
end Go.Proofs.Ytcjjhjflijhijaa.intsShort
