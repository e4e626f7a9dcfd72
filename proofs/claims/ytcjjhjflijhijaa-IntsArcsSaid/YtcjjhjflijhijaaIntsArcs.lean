/- The law IntsArcs of warderlaw02 answers true for all arcs and every further one, and leaves its arguments as they were; no condition. -/
import Derived.Test.YtcjjhjflijhijaaRows
import Derived.WalkKit
import Derived.ProofKit
import Derived.OpenShut
import Derived.ChangeOld
import Derived.Below
import Derived.SizedLaws
import Derived.Test.YtcjjhjflijhijaaTlvO
import Derived.Test.YtcjjhjflijhijaaKitP
import Derived.Test.YtcjjhjflijhijaaIntAD
namespace Go.Proofs.Ytcjjhjflijhijaa.intsArcs
open Go.ChangeShapes Go.WideShapes Go.ChangeAt Go.RowKit
set_option linter.unusedVariables false

theorem own : ownKnob Try.prog.godebug = none := by kernel_rfl
theorem laidOut : laidOutB Try.prog = true := by kernel_rfl

open Go.Proofs.Ytcjjhjflijhijaa.tlvc Go.Proofs.Ytcjjhjflijhijaa.intc Go.Proofs.Ytcjjhjflijhijaa.intm

set_option maxRecDepth 100000 in
set_option maxHeartbeats 8000000 in
theorem walk (a0 : Option Addr) (len0 cap0 : Nat) (x0 : List Int) (a1 : Int) (w : World) (w0 : tlvc.Ins w a0 len0 x0) (l0 : len0 ≤ cap0) (r0 : cap0 ≤ 17592186043904) (w1 : (Lit.int .i64 a1).wf = true) :
    Calls Try.prog 10 #[.slice a0 len0 cap0, .int .i64 a1] w fun e w' => e = .returned (.bool true) ∧ Below w.heap.size w w' := by
  have hn := i64_of w1
  have hmx : cap0 ≤ maxLen := by unfold maxLen; omega
  obtain ⟨i0, hi0, hz0, hz1, hz2⟩ := info_parts intc.Try.info3
  have hlen0 := w0.len
  have HL0 := Lib.hid hlen0
  clear hlen0
  go_enter Try.func10, Try.ntmps10
  go_wp2_with fail
  refine (head_any _).mono ?_
  rintro e wa ⟨rfl, hba⟩
  have hxa := w0.below hba
  go_wp2_with fail
  refine (putOID_any _ _ _ _ _ hxa l0 hmx).mono ?_
  obtain ⟨Y, hY⟩ : ∃ Y, (putO x0).1 = Y := ⟨_, rfl⟩
  obtain ⟨E, hE⟩ : ∃ E, (putO x0).2 = E := ⟨_, rfl⟩
  rw [hY, hE]
  rintro e wb ⟨A1, c1, rfl, hh1, hb1⟩
  have hB := then_ hba hb1
  have hxb := w0.below hB
  have HY := Lib.hid hY
  have HE := Lib.hid hE
  have ho0 := World.ownsRow_lit (base := wb.heap.size) (e := 3) (size := 1) wb #[] 0 (Nat.le_refl _) (Nat.zero_le _) rfl
  clear hY hE hxa hba hb1
  go_wp2_with (at_builtin; refine wpl_iapp rfl (.tmp 17) (.tmp 18) 29 rfl wb.heap.size 3 i0 (.int .i64 0) Try.underlying29 hi0 hz0 hz1 hz2 rfl _ 0 [] rfl ho0 a0 len0 cap0 x0 rfl (hxb.alloc _) (by omega) (by simp) ?_)
  intro v1 wc ho1 hg1 _
  have hbc : Below wb.heap.size wb wc := ((Below.refl _ _).alloc (Nat.le_refl _) _).grown hg1 (by simp) fun j hj => (ho0.lt j hj).1
  clear hg1 ho0
  go_wp2_with (at_builtin; refine wpl_iapp rfl (.tmp 19) (.tmp 21) 29 rfl wb.heap.size 3 i0 (.int .i64 0) Try.underlying29 hi0 hz0 hz1 hz2 rfl v1 len0 _ rfl (ho1.alloc _) _ 1 1 [a1] rfl (ins_new rfl (fit8_one hn) rfl (by simp)) (by omega) (by have := hbc.size; simp; omega) ?_)
  intro v2 wd ho2 hg2 _
  have hbd : Below wb.heap.size wb wd := (hbc.alloc hbc.size _).grown hg2 (by have := hbc.size; simp; omega) fun j hj => (ho1.lt j hj).1
  rw [← ivals_append] at ho2
  obtain ⟨A2, c2, rfl, hc21, hc22, _⟩ := own_shape ho2
  have hy2 := Ins.own ho2 (w0.fit.app (fit8_one hn))
  have hB2 := then_ hB hbd
  have hh1d := hh1.1.below hbd
  clear hg2 ho1 ho2 hbc hbd hxb
  go_wp2_with fail
  refine (putOID_any _ _ _ _ _ hy2 hc21 hc22).mono ?_
  obtain ⟨Z, hZ⟩ : ∃ Z, (putO (x0 ++ [a1])).1 = Z := ⟨_, rfl⟩
  obtain ⟨F, hF⟩ : ∃ F, (putO (x0 ++ [a1])).2 = F := ⟨_, rfl⟩
  rw [hZ, hF]
  rintro e we ⟨A3, c3, rfl, hh3, hb3⟩
  have hB3 := then_ hB2 hb3
  have hYb := hh1d.below hb3
  have hZb := hh3.1
  have hZc := hh3.2.1
  have hZm := hh3.2.2.1
  unfold maxLen at hZm
  have HZ := Lib.hid hZ
  have HF := Lib.hid hF
  clear hZ hF hy2 hB2 hh1 hh1d hh3 hb3 hB
  by_cases ho : objB x0 = true
  · have e0 : E = 0 := by rw [← HE.out]; unfold putO; rw [if_pos ho]
    subst e0
    by_cases hp : objB (x0 ++ [a1]) = true
    · have f0 : F = 0 := by rw [← HF.out]; unfold putO; rw [if_pos hp]
      have hy : Y = encO x0 := by rw [← HY.out]; unfold putO; rw [if_pos ho]
      have hz : Z = encO x0 ++ digs a1 := by rw [← HZ.out]; unfold putO; rw [if_pos hp]; exact encO_snoc ((objB_iff x0).1 ho).1
      subst f0
      have htk : Z.take Y.length = Y := by rw [hz, hy, List.take_left']; rfl
      have hlt : Y.length < Z.length := by rw [hz, hy, List.length_append]; have := digs_pos a1; omega
      have s1 := str_all hYb c1
      have hcut := hZb.upto (k := Y.length) (by omega)
      rw [htk] at hcut
      have s2 := str_all hcut c3
      obtain ⟨LY, hLY⟩ : ∃ LY, Y.length = LY := ⟨_, rfl⟩
      obtain ⟨LZ, hLZ⟩ : ∃ LZ, Z.length = LZ := ⟨_, rfl⟩
      rw [hLY] at s1 s2 hlt ⊢
      rw [hLZ] at hlt hZc ⊢
      have hdc : decide (LY < LZ) = true := by simpa using hlt
      have hdi : decide ((LY : Int) < LZ) = true := by simp only [decide_eq_true_eq]; omega
      have hc0 : (0 : Int) ≤ LY := by omega
      have hc1' : (LY : Int) ≤ c3 := by omega
      clear hcut htk hy hz hLY hLZ hYb hZb ho hp
      go_wp2
      go_quiet (fail)
      go_wp2
      go_ret
      exact ⟨rfl, hB3.trans ((below_drewN _).mono hB3.size)⟩
    · have f22 : F = 22 := by rw [← HF.out]; unfold putO; rw [if_neg hp]
      subst f22
      have hw3 : a1 < 0 ∨ 268435455 < a1 ∨ 16 ≤ len0 := by
        have := HL0.out
        by_cases g0 : 0 ≤ a1
        · by_cases g1 : a1 ≤ 268435455
          · by_cases g2 : x0.length < 16
            · exact absurd (obj_snoc ho g0 g1 g2) hp
            · omega
          · omega
        · omega
      clear ho hp hYb hZb
      rcases hw3 with g | g | g
      · go_wp2
        go_ret
        exact ⟨rfl, hB3⟩
      · have g' : ¬ a1 < 0 := by omega
        go_wp2
        go_ret
        exact ⟨rfl, hB3⟩
      · by_cases g0 : a1 < 0
        · go_wp2
          go_ret
          exact ⟨rfl, hB3⟩
        · by_cases g1 : 268435455 < a1
          · go_wp2
            go_ret
            exact ⟨rfl, hB3⟩
          · have hd : decide (16 ≤ len0) = true := by simpa using g
            have hd2 : decide ((16 : Int) ≤ len0) = true := by simp only [decide_eq_true_eq]; omega
            go_wp2
            go_ret
            exact ⟨rfl, hB3⟩
  · have e22 : E = 22 := by rw [← HE.out]; unfold putO; rw [if_neg ho]
    subst e22
    clear ho hYb hZb
    go_wp2
    go_ret
    exact ⟨rfl, hB3⟩

set_option maxRecDepth 100000 in
theorem lifted (os : Os) (started : os.Started) (H : Type) (enc : TypeId × Value → H) :
    ReturnsInHanded {} Try.checked os 10 .any (Rows.intsArcsSpec.pre6 enc Try.prog Try.f10 Rows.intsArcsRow.domain false) (Rows.intsArcsSpec.post enc Try.prog Try.f10 false true false false) := by
  refine returnsInHanded_of_change_sized (C := Try.checked) own started (by kernel_rfl) Try.func10
    (ChangeSpec.witness6 (enc := enc) (C := Try.checked) false ⟨#[], #[.slice none 0 0, .int .i64 0], []⟩ 8 (by kernel_rfl) (by kernel_rfl) (by kernel_rfl) (by kernel_rfl)) ?_
  intro W base args ds gs before hval0 hW hcnd hsz0 _
  have hval : ∀ (j : Nat) t v, Try.f10.params[j]? = some t → args[j]? = some v → Value.okWide Try.prog W .any base t v := hval0
  have hW' := hW
  obtain ⟨p, q, hA0, hV, rfl, hfz, hnd⟩ := hW
  have hA : DataW.TrodAll enc Try.prog W 0 (fun _ => true) true Try.f10.params.toList args.toList ds p := hA0
  have hsz : (DataW.weightsEach Try.prog (Try.f10.params.toList ++ Rows.intsArcsSpec.plain.varTypes Try.prog) (ds ++ gs)).all (· ≤ reachBytes) = true := hsz0
  rw [Try.params10] at hA hval hsz
  obtain ⟨v0, vs0, d0, ds0, p0, q0, hargs, rfl, rfl, h0, r_0⟩ := trodAll_cons hA
  obtain ⟨v1, vs1, d1, ds1, p1, q1, rfl, rfl, rfl, h1, r_1⟩ := trodAll_cons r_0
  obtain ⟨rfl, rfl, rfl⟩ := trodAll_nil r_1
  obtain rfl : args = #[v0, v1] := by cases args; simp_all
  obtain ⟨rfl, rfl⟩ := trodVars_none hV
  obtain ⟨a0, len0, cap0, rfl⟩ := okWide_slice Try.underlying29 (hval 0 29 v0 rfl rfl)
  have k0 := h0
  have lt0 : ∀ x ∈ p0, x.block < W.heap.size := by obtain ⟨m, hm⟩ := k0; exact DataW.trod_lt m _ _ _ hm
  obtain ⟨x0, w0, l0, m0, s0⟩ := tlvc.open_ins Try.underlying29 Try.underlying3 (by kernel_rfl) h0
  have r0 := tlvc.spots_reach8 hsz s0 (j := 0) rfl rfl Try.underlying29 (of_decide_eq_true (by kernel_rfl))
  obtain ⟨a1, rfl, rfl, rfl, w1⟩ := open_int Try.underlying3 (hval 1 3 v1 rfl rfl) h1
  clear hA0 hval0
  refine (walk a0 len0 cap0 x0 a1 W w0 l0 r0 w1).mono fun e W' ⟨he, bel⟩ => ?_
  subst he
  exact ⟨_, rfl, _, _, _, [], _, [], hW', trodAll_mk1 (shut_bool Try.underlying4 _), (trodAll_cons_mk (Below.trod laidOut (by kernel_rfl) (of_decide_eq_true (by kernel_rfl)) k0 bel lt0) (trodAll_cons_mk (shut_int Try.underlying3 w1) trodAll_mk0)), rfl, bel.frame _, fun h => by cases h⟩

theorem over : Rows.intsArcsRow.holds Try.pinned (OpenSpec.ofChange Rows.intsArcsSpec) :=
  OpenClaim.holds_of_wide 10 Try.f10 rfl rfl rfl rfl rfl rfl rfl ⟨rfl, rfl, rfl, rfl, rfl⟩ rfl rfl rfl rfl rfl (by kernel_rfl) Try.func10 (by kernel_rfl)
    (of_decide_eq_true (by kernel_rfl)) (by unfold Func.isWrapper; first | (rw [if_pos (by decide +kernel)]; kernel_rfl) | (rw [if_neg (by decide +kernel)]; exact ⟨rfl, rfl⟩))
    (fun os started H enc _ => lifted os started H enc)

theorem proved : Rows.IntsArcsSaid := over
#print axioms proved
end Go.Proofs.Ytcjjhjflijhijaa.intsArcs
