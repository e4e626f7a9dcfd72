/- The law IntsObjects of warderlaw02 answers true for all arcs and every body, and leaves its arguments as they were; no condition. -/
import Derived.Test.YtcjjhjflijhijaaRows
import Derived.WalkKit
import Derived.ProofKit
import Derived.OpenShut
import Derived.ChangeOld
import Derived.Below
import Derived.SizedLaws
import Derived.Test.YtcjjhjflijhijaaTlvO
import Derived.Test.YtcjjhjflijhijaaKitP
import Derived.Test.YtcjjhjflijhijaaIntAD
namespace Go.Proofs.Ytcjjhjflijhijaa.intsObjects
open Go.ChangeShapes Go.WideShapes Go.ChangeAt Go.RowKit
set_option linter.unusedVariables false

theorem own : ownKnob Try.prog.godebug = none := by kernel_rfl
theorem laidOut : laidOutB Try.prog = true := by kernel_rfl

open Go.Proofs.Ytcjjhjflijhijaa.tlvc Go.Proofs.Ytcjjhjflijhijaa.intc Go.Proofs.Ytcjjhjflijhijaa.intm

set_option maxRecDepth 100000 in
set_option maxHeartbeats 8000000 in
theorem walk (a0 : Option Addr) (len0 cap0 : Nat) (x0 : List Int) (a1 : Option Addr) (len1 cap1 : Nat) (x1 : List Int) (w : World) (w0 : tlvc.Ins w a0 len0 x0) (l0 : len0 ≤ cap0) (r0 : cap0 ≤ 17592186043904) (w1 : tlvc.Bys w a1 len1 x1) (l1 : len1 ≤ cap1) (r1 : cap1 ≤ 140737488351232) :
    Calls Try.prog 4 #[.slice a0 len0 cap0, .slice a1 len1 cap1] w fun e w' => e = .returned (.bool true) ∧ Below w.heap.size w w' := by
  have hmx : cap0 ≤ maxLen := by unfold maxLen; omega
  have hmy : cap1 ≤ maxLen := by unfold maxLen; omega
  obtain ⟨Y, hY⟩ : ∃ Y, (putO x0).1 = Y := ⟨_, rfl⟩
  obtain ⟨E, hE⟩ : ∃ E, (putO x0).2 = E := ⟨_, rfl⟩
  obtain ⟨X, hX⟩ : ∃ X, (oidF x1).1 = X := ⟨_, rfl⟩
  obtain ⟨F, hF⟩ : ∃ F, (oidF x1).2 = F := ⟨_, rfl⟩
  have HY := Lib.hid hY
  have HE := Lib.hid hE
  have HX := Lib.hid hX
  have HF := Lib.hid hF
  clear hY hE hX hF
  go_enter Try.func4, Try.ntmps4
  go_wp2_with fail
  refine (head_any _).mono ?_
  rintro e wa ⟨rfl, hba⟩
  go_wp2_with fail
  refine (putOID_any _ _ _ _ _ (w0.below hba) l0 hmx).mono ?_
  rw [HY.out, HE.out]
  rintro e wb ⟨A1, c1, rfl, hh1, hb1⟩
  have hB1 := then_ hba hb1
  clear hba
  go_wp2_with fail
  refine (refPutOID_any _ _ _ _ _ (w0.below hB1) l0 hmx).mono ?_
  rw [HY.out, HE.out]
  rintro e wc ⟨A2, c2, rfl, hh2, hb2⟩
  have hB2 := then_ hB1 hb2
  have hy1 := hh1.1.below hb2
  clear hB1 hh1
  go_wp2_with fail
  refine (oid_any _ _ _ _ _ (w1.below hB2) l1 hmy).mono ?_
  rw [HX.out, HF.out]
  rintro e wd ⟨A3, c3, rfl, hh3, hb3⟩
  have hB3 := then_ hB2 hb3
  have hy1d := hy1.below hb3
  have hy2d := hh2.1.below hb3
  clear hB2 hy1 hh2
  go_wp2_with fail
  refine (refOID_any _ _ _ _ _ (w1.below hB3) l1 hmy).mono ?_
  rw [HX.out, HF.out]
  rintro e we ⟨A4, c4, rfl, hh4, hb4⟩
  have hB4 := then_ hB3 hb4
  have hx3 := hh3.1.below hb4
  have s1 := str_now (hy1d.below hb4) c1
  have s2 := str_now (hy2d.below hb4) c2
  have hl3 := Nat.le_trans hh3.2.1 hh3.2.2.1
  clear hB3 hy1d hy2d hb1 hb2 hb3 hb4
  go_wp2_with fail
  refine (same_any _ _ _ _ _ _ _ _ _ hx3 hh4.1 hl3).mono ?_
  rw [show decide (X = X) = true from by simp]
  rintro e wf ⟨rfl, q, rfl⟩
  go_wp2_with fail
  go_ret
  exact ⟨rfl, hB4.trans ((below_drewN q).mono hB4.size)⟩

set_option maxRecDepth 100000 in
theorem lifted (os : Os) (started : os.Started) (H : Type) (enc : TypeId × Value → H) :
    ReturnsInHanded {} Try.checked os 4 .any (Rows.intsObjectsSpec.pre6 enc Try.prog Try.f4 Rows.intsObjectsRow.domain false) (Rows.intsObjectsSpec.post enc Try.prog Try.f4 false true false false) := by
  refine returnsInHanded_of_change_sized (C := Try.checked) own started (by kernel_rfl) Try.func4
    (ChangeSpec.witness6 (enc := enc) (C := Try.checked) false ⟨#[], #[.slice none 0 0, .slice none 0 0], []⟩ 8 (by kernel_rfl) (by kernel_rfl) (by kernel_rfl) (by kernel_rfl)) ?_
  intro W base args ds gs before hval0 hW hcnd hsz0 _
  have hval : ∀ (j : Nat) t v, Try.f4.params[j]? = some t → args[j]? = some v → Value.okWide Try.prog W .any base t v := hval0
  have hW' := hW
  obtain ⟨p, q, hA0, hV, rfl, hfz, hnd⟩ := hW
  have hA : DataW.TrodAll enc Try.prog W 0 (fun _ => true) true Try.f4.params.toList args.toList ds p := hA0
  have hsz : (DataW.weightsEach Try.prog (Try.f4.params.toList ++ Rows.intsObjectsSpec.plain.varTypes Try.prog) (ds ++ gs)).all (· ≤ reachBytes) = true := hsz0
  rw [Try.params4] at hA hval hsz
  obtain ⟨v0, vs0, d0, ds0, p0, q0, hargs, rfl, rfl, h0, r_0⟩ := trodAll_cons hA
  obtain ⟨v1, vs1, d1, ds1, p1, q1, rfl, rfl, rfl, h1, r_1⟩ := trodAll_cons r_0
  obtain ⟨rfl, rfl, rfl⟩ := trodAll_nil r_1
  obtain rfl : args = #[v0, v1] := by cases args; simp_all
  obtain ⟨rfl, rfl⟩ := trodVars_none hV
  obtain ⟨a0, len0, cap0, rfl⟩ := okWide_slice Try.underlying29 (hval 0 29 v0 rfl rfl)
  have k0 := h0
  have lt0 : ∀ x ∈ p0, x.block < W.heap.size := by obtain ⟨m, hm⟩ := k0; exact DataW.trod_lt m _ _ _ hm
  obtain ⟨x0, w0, l0, m0, s0⟩ := tlvc.open_ins Try.underlying29 Try.underlying3 (by kernel_rfl) h0
  have r0 := tlvc.spots_reach8 hsz s0 (j := 0) rfl rfl Try.underlying29 (of_decide_eq_true (by kernel_rfl))
  obtain ⟨a1, len1, cap1, rfl⟩ := okWide_slice Try.underlying22 (hval 1 22 v1 rfl rfl)
  have k1 := h1
  have lt1 : ∀ x ∈ p1, x.block < W.heap.size := by obtain ⟨m, hm⟩ := k1; exact DataW.trod_lt m _ _ _ hm
  obtain ⟨x1, w1, l1, m1, s1⟩ := tlvc.open_bys Try.underlying22 Try.underlying5 (by kernel_rfl) h1
  have r1 := tlvc.spots_reach hsz s1 (j := 1) rfl rfl Try.underlying22 (of_decide_eq_true (by kernel_rfl))
  clear hA0 hval0
  refine (walk a0 len0 cap0 x0 a1 len1 cap1 x1 W w0 l0 r0 w1 l1 r1).mono fun e W' ⟨he, bel⟩ => ?_
  subst he
  exact ⟨_, rfl, _, _, _, [], _, [], hW', trodAll_mk1 (shut_bool Try.underlying4 _), (trodAll_cons_mk (Below.trod laidOut (by kernel_rfl) (of_decide_eq_true (by kernel_rfl)) k0 bel lt0) (trodAll_cons_mk (Below.trod laidOut (by kernel_rfl) (of_decide_eq_true (by kernel_rfl)) k1 bel lt1) trodAll_mk0)), rfl, bel.frame _, fun h => by cases h⟩

theorem over : Rows.intsObjectsRow.holds Try.pinned (OpenSpec.ofChange Rows.intsObjectsSpec) :=
  OpenClaim.holds_of_wide 4 Try.f4 rfl rfl rfl rfl rfl rfl rfl ⟨rfl, rfl, rfl, rfl, rfl⟩ rfl rfl rfl rfl rfl (by kernel_rfl) Try.func4 (by kernel_rfl)
    (of_decide_eq_true (by kernel_rfl)) (by unfold Func.isWrapper; first | (rw [if_pos (by decide +kernel)]; kernel_rfl) | (rw [if_neg (by decide +kernel)]; exact ⟨rfl, rfl⟩))
    (fun os started H enc _ => lifted os started H enc)

theorem proved : Rows.IntsObjectsSaid := over
#print axioms proved
end Go.Proofs.Ytcjjhjflijhijaa.intsObjects
