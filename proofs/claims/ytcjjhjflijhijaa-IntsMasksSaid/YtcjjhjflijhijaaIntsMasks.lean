/- The law IntsMasks of warderlaw02 answers true for every byte and every mask, and leaves its arguments as they were; no condition. -/
import Derived.Test.YtcjjhjflijhijaaRows
import Derived.WalkKit
import Derived.ProofKit
import Derived.OpenShut
import Derived.ChangeOld
import Derived.Below
import Derived.SizedLaws
import Derived.Test.YtcjjhjflijhijaaTlvO
import Derived.Test.YtcjjhjflijhijaaKitP
import Derived.Test.YtcjjhjflijhijaaIntAC
namespace Go.Proofs.Ytcjjhjflijhijaa.intsMasks
open Go.ChangeShapes Go.WideShapes Go.ChangeAt Go.RowKit
set_option linter.unusedVariables false

theorem own : ownKnob Try.prog.godebug = none := by kernel_rfl
theorem laidOut : laidOutB Try.prog = true := by kernel_rfl

open Go.Proofs.Ytcjjhjflijhijaa.tlvc Go.Proofs.Ytcjjhjflijhijaa.intc Go.Proofs.Ytcjjhjflijhijaa.intm

set_option maxRecDepth 100000 in
set_option maxHeartbeats 8000000 in
theorem walk (a0 : Int) (a1 : Int) (w : World) (w0 : (Lit.int .u8 a0).wf = true) (w1 : (Lit.int .u16 a1).wf = true) :
    Calls Try.prog 11 #[.int .u8 a0, .int .u16 a1] w fun e w' => e = .returned (.bool true) ∧ Below w.heap.size w w' := by
  have hi := bounds_u8 w0
  have hm : U16 a1 := by have := bounds_u16 w1; unfold U16; omega
  obtain ⟨K, hK⟩ : ∃ K : Nat, a0 % 16 = K := Int.eq_ofNat_of_zero_le (by omega)
  have hK16 : K < 16 := by omega
  obtain ⟨f1, f2, f3, f4, f5⟩ := one_bit hK16
  have hlm := putM_length a1
  obtain ⟨B, hBB⟩ : ∃ B, putM (2 ^ K) = B := ⟨_, rfl⟩
  obtain ⟨C, hCC⟩ : ∃ C, putM a1 = C := ⟨_, rfl⟩
  have hbits := Lib.hid (fun (j : Nat) (hj : j < 16) => putM_bit hm hj)
  have hbits2 := Lib.hid (fun (j : Nat) => bit16 hm j)
  rw [hBB] at f1 f2 f3
  rw [hCC] at hlm hbits
  obtain ⟨LC, hLC⟩ : ∃ LC, C.length = LC := ⟨_, rfl⟩
  rw [hLC] at hlm hbits
  have HB := Lib.hid hBB
  have HC := Lib.hid hCC
  have HLC := Lib.hid hLC
  have HF1 := Lib.hid f1
  have HF2 := Lib.hid f2
  have HF3 := Lib.hid f3
  clear hBB hCC hLC f1 f2 f3
  go_enter Try.func11, Try.ntmps11
  go_wp2_with fail
  refine (head_any _).mono ?_
  rintro e wa ⟨rfl, hba⟩
  go_wp2_with fail
  refine (putBits_any _ _ f5).mono ?_
  rw [HB.out]
  rintro e wb ⟨A1, c1, rfl, hh1, hb1⟩
  rw [HF1.out]
  have hB := then_ hba hb1
  have hbys := hh1.1
  rw [HF1.out] at hbys
  have hD1 : K / 8 ≤ 1 := by omega
  have hr1 : K % 8 ≤ 7 := by omega
  have hKD : (K : Int) / 8 = ((K / 8 : Nat) : Int) := by omega
  have hKm : (K : Int) % 8 = ((K % 8 : Nat) : Int) := by omega
  have htm : (K : Int).tmod 8 = ((K % 8 : Nat) : Int) := by rw [Int.tmod_eq_emod_of_nonneg (by omega)]; omega
  have hf2 := HF2.out
  have hf3 := HF3.out
  obtain ⟨D, hD⟩ : ∃ D, K / 8 = D := ⟨_, rfl⟩
  obtain ⟨r, hr⟩ : ∃ r, K % 8 = r := ⟨_, rfl⟩
  rw [hD] at hbys hKD hD1 hf3 ⊢
  rw [hr] at hKm htm hr1 hf2 hf3
  obtain ⟨b, off, rfl, _, hcl⟩ := hbys.2.2 (by omega)
  have hq0 : ∀ q, (wb.drewN q).cell? ⟨b, off, none⟩ = some (.int .u8 (7 - r)) := fun q => by rw [← hf2]; simpa using hcl 0 (by omega)
  have hq1 : ∀ q, (wb.drewN q).cell? ⟨b, off + (1 + D), none⟩ = some (.int .u8 (2 ^ (7 - r))) := fun q => by rw [← hf3]; exact hcl (1 + D) (by omega)
  have hp := pow_small (show r < 8 by omega)
  have hpw : IntKind.u8.wrap (2 ^ (7 - r)) = 2 ^ (7 - r) := by rw [IntKind.wrap_u8]; exact hp
  clear hcl hbys hh1 hf2 hf3 hD hr hb1 hba
  have hw0 : IntKind.i64.wrap (D : Int) = D := IntWalk.i64_in _ (by omega)
  have hw2 : IntKind.i64.wrap (2 + (D : Int)) = 2 + D := IntWalk.i64_in _ (by omega)
  have hw1 : IntKind.i64.wrap (((2 + D : Nat) : Int) - 1) = ((1 + D : Nat) : Int) := by rw [IntWalk.i64_in _ (by omega)]; omega
  have hw1' : IntKind.i64.wrap (2 + (D : Int) - 1) = ((1 + D : Nat) : Int) := by rw [IntWalk.i64_in _ (by omega)]; omega
  have hw7 : IntKind.i64.wrap (7 - (r : Int)) = 7 - r := IntWalk.i64_in _ (by omega)
  have h70 : (0 : Int) ≤ 7 - r := by omega
  have h7n : (7 - (r : Int)).toNat = 7 - r := by omega
  have hn0 : (0 : Int) < ((2 + D : Nat) : Int) := by omega
  have hn0' : (0 : Int) < 2 + (D : Int) := by omega
  have hn1 : ((1 + D : Nat) : Int) < ((2 + D : Nat) : Int) := by omega
  have hn1' : 1 + (D : Int) < 2 + (D : Int) := by omega
  have hcast : ((2 + D : Nat) : Int) = 2 + D := by omega
  go_wp2
  go_quiet (fail)
  go_wp2_with fail
  refine (putBits_any _ _ hm).mono ?_
  rw [HC.out]
  rintro e wc ⟨A2, c2, rfl, hh2, hb2⟩
  rw [HLC.out]
  have hB2 : Below w.heap.size w wc := hB.trans ((below_drewN nq).mono hB.size |>.trans (hb2.mono hB.size))
  have hbys2 := hh2.1
  rw [HLC.out] at hbys2
  have hcl2 := hbys2.2.2
  have HCL := Lib.hid hcl2
  have hfC := Lib.hid hbys2.fit
  clear hcl2 hbys2 hh2 hb2 hB hq0 hq1 hp hpw hw0 hw2 hw1 hw1' hw7 h70 h7n hn0 hn0' hn1 hn1' hcast hKD hKm htm
  have d1 : decide ((LC : Int) < 1) = false := by simp only [decide_eq_false_iff_not]; omega
  have d2 : decide ((3 : Int) < LC) = false := by simp only [decide_eq_false_iff_not]; omega
  go_wp2
  go_loop [9] (fun x => ∃ j : Nat, x = .int .i64 j ∧ j ≤ 16) (fun x => 17 - (intOf x).toNat)
  case atStart => exact ⟨0, rfl, by omega⟩
  case round =>
    obtain ⟨j, rfl, hj⟩ := hrel
    by_cases hlt : j < 16
    · have hmb := hbits2.out j
      have hbt := hbits.out j hlt
      have hjD : (j : Int) / 8 = ((j / 8 : Nat) : Int) := by omega
      have hjm : (j : Int) % 8 = ((j % 8 : Nat) : Int) := by omega
      have hs7 : j % 8 ≤ 7 := by omega
      have hE1 : j / 8 ≤ 1 := by omega
      obtain ⟨E, hE⟩ : ∃ E, j / 8 = E := ⟨_, rfl⟩
      obtain ⟨s, hs⟩ : ∃ s, j % 8 = s := ⟨_, rfl⟩
      rw [hE] at hjD hbt hE1
      rw [hs] at hjm hbt hs7
      clear hE hs
      by_cases hin : 1 + E < LC
      · obtain ⟨b2, off2, hA2, _, hcc⟩ := HCL.out (by omega)
        subst hA2
        have hcell := hcc (1 + E) hin
        have hxb := hfC.out.getD (1 + E)
        have hb1 := hbt.1 hin
        obtain ⟨x, hx⟩ : ∃ x, C.getD (1 + E) 0 = x := ⟨_, rfl⟩
        rw [hx] at hcell hxb hb1
        have hxbit := bit8 hxb (7 - s)
        rw [hb1] at hxbit
        clear hcc hx hb1 hbt
        rcases (show a1 / 2 ^ j % 2 = 0 ∨ a1 / 2 ^ j % 2 = 1 by omega) with hz | ho
        · rw [hz] at hmb hxbit
          clear hz
          go_wp2
          go_round
          case rel => exact ⟨j + 1, by go_num, by omega⟩
          case measure => simp [intOf]; omega
        · rw [ho] at hmb hxbit
          clear ho
          go_wp2
          go_round
          case rel => exact ⟨j + 1, by go_num, by omega⟩
          case measure => simp [intOf]; omega
      · have hz := hbt.2 hin
        rw [hz] at hmb
        have hin2 : ¬ 1 + (E : Int) < LC := by omega
        clear hz hbt
        go_wp2
        go_round
        case rel => exact ⟨j + 1, by go_num, by omega⟩
        case measure => simp [intOf]; omega
    · go_wp2
      go_ret
      exact ⟨rfl, hB2⟩

set_option maxRecDepth 100000 in
theorem lifted (os : Os) (started : os.Started) (H : Type) (enc : TypeId × Value → H) :
    ReturnsInHanded {} Try.checked os 11 .any (Rows.intsMasksSpec.pre6 enc Try.prog Try.f11 Rows.intsMasksRow.domain false) (Rows.intsMasksSpec.post enc Try.prog Try.f11 false true false false) := by
  refine returnsInHanded_of_change_sized (C := Try.checked) own started (by kernel_rfl) Try.func11
    (ChangeSpec.witness6 (enc := enc) (C := Try.checked) false ⟨#[], #[.int .u8 0, .int .u16 0], []⟩ 8 (by kernel_rfl) (by kernel_rfl) (by kernel_rfl) (by kernel_rfl)) ?_
  intro W base args ds gs before hval0 hW hcnd hsz0 _
  have hval : ∀ (j : Nat) t v, Try.f11.params[j]? = some t → args[j]? = some v → Value.okWide Try.prog W .any base t v := hval0
  have hW' := hW
  obtain ⟨p, q, hA0, hV, rfl, hfz, hnd⟩ := hW
  have hA : DataW.TrodAll enc Try.prog W 0 (fun _ => true) true Try.f11.params.toList args.toList ds p := hA0
  have hsz : (DataW.weightsEach Try.prog (Try.f11.params.toList ++ Rows.intsMasksSpec.plain.varTypes Try.prog) (ds ++ gs)).all (· ≤ reachBytes) = true := hsz0
  rw [Try.params11] at hA hval hsz
  obtain ⟨v0, vs0, d0, ds0, p0, q0, hargs, rfl, rfl, h0, r_0⟩ := trodAll_cons hA
  obtain ⟨v1, vs1, d1, ds1, p1, q1, rfl, rfl, rfl, h1, r_1⟩ := trodAll_cons r_0
  obtain ⟨rfl, rfl, rfl⟩ := trodAll_nil r_1
  obtain rfl : args = #[v0, v1] := by cases args; simp_all
  obtain ⟨rfl, rfl⟩ := trodVars_none hV
  obtain ⟨a0, rfl, rfl, rfl, w0⟩ := open_int Try.underlying5 (hval 0 5 v0 rfl rfl) h0
  obtain ⟨a1, rfl, rfl, rfl, w1⟩ := open_int Try.underlying40 (hval 1 40 v1 rfl rfl) h1
  clear hA0 hval0
  refine (walk a0 a1 W w0 w1).mono fun e W' ⟨he, bel⟩ => ?_
  subst he
  exact ⟨_, rfl, _, _, _, [], _, [], hW', trodAll_mk1 (shut_bool Try.underlying4 _), (trodAll_cons_mk (shut_int Try.underlying5 w0) (trodAll_cons_mk (shut_int Try.underlying40 w1) trodAll_mk0)), rfl, bel.frame _, fun h => by cases h⟩

theorem over : Rows.intsMasksRow.holds Try.pinned (OpenSpec.ofChange Rows.intsMasksSpec) :=
  OpenClaim.holds_of_wide 11 Try.f11 rfl rfl rfl rfl rfl rfl rfl ⟨rfl, rfl, rfl, rfl, rfl⟩ rfl rfl rfl rfl rfl (by kernel_rfl) Try.func11 (by kernel_rfl)
    (of_decide_eq_true (by kernel_rfl)) (by unfold Func.isWrapper; first | (rw [if_pos (by decide +kernel)]; kernel_rfl) | (rw [if_neg (by decide +kernel)]; exact ⟨rfl, rfl⟩))
    (fun os started H enc _ => lifted os started H enc)

theorem proved : Rows.IntsMasksSaid := over
#print axioms proved
end Go.Proofs.Ytcjjhjflijhijaa.intsMasks
