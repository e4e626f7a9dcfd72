/- The law TlvBack of warderlaw01 answers true for every tag and all bytes, and leaves its arguments as they were; condition: the arguments hold together at most 1048576 values. -/
import Derived.Test.YtpfdebelpfcofaaRows
import Derived.WalkKit
import Derived.ProofKit
import Derived.OpenShut
import Derived.ChangeOld
import Derived.Below
import Derived.SizedLaws
import Derived.JoinedCond
import Derived.Deep.CondSized
import Derived.Test.YtpfdebelpfcofaaTlvO
import Derived.Test.YtpfdebelpfcofaaTlvQ
namespace Go.Proofs.Ytpfdebelpfcofaa.tlvBackUpto
open Go.ChangeShapes Go.WideShapes Go.ChangeAt Go.RowKit
set_option linter.unusedVariables false

theorem own : ownKnob Try.prog.godebug = none := by kernel_rfl
theorem laidOut : laidOutB Try.prog = true := by kernel_rfl


set_option maxRecDepth 100000 in
set_option maxHeartbeats 1000000 in
theorem walk (a0 : Option Addr) (len0 cap0 : Nat) (x0 : List Int) (a1 : Int) (a2 : Option Addr) (len2 cap2 : Nat) (x2 : List Int) (a3 : Option Addr) (len3 cap3 : Nat) (x3 : List Int) (w : World) (w0 : tlvc.Bys w a0 len0 x0) (l0 : len0 ≤ cap0) (r0 : cap0 ≤ 1048576) (w1 : (Lit.int .u8 a1).wf = true) (w2 : tlvc.Bys w a2 len2 x2) (l2 : len2 ≤ cap2) (r2 : cap2 ≤ 1048576) (w3 : tlvc.Bys w a3 len3 x3) (l3 : len3 ≤ cap3) (r3 : cap3 ≤ 1048576) :
    Calls Try.prog 5 #[.slice a0 len0 cap0, .int .u8 a1, .slice a2 len2 cap2, .slice a3 len3 cap3] w fun e w' => e = .returned (.bool true) ∧ Below w.heap.size w w' := by
  have hf := bounds_u8 w1
  have hmod := tlvc.endless_mod a1 hf.1 hf.2
  have hl0 := w0.1
  have hl2 := w2.1
  have hl3 := w3.1
  obtain ⟨i0, hi, hz0, hz1, hz2⟩ := info_parts tlvc.Try.info5
  by_cases ht : tlvc.endlessB a1 = true
  · have hm : (a1 % 32 == 31) = true := by rw [← hmod]; exact ht
    clear hmod hl0 hl2 hl3
    go_enter Try.func5, Try.ntmps5
    go_wp2_with fail
    refine (tlvc.head_any _).mono ?_
    rintro e wa ⟨rfl, hb1⟩
    go_wp2_with fail
    refine (tlvc.put_tag _ _ _ _ _ ht).mono ?_
    rintro e wb ⟨rfl, rfl⟩
    go_wp2_with fail
    go_ret
    exact ⟨rfl, hb1⟩
  · have ht' : tlvc.endlessB a1 = false := by simpa using ht
    by_cases hn : 65535 < len2
    · have hm : (a1 % 32 == 31) = false := by rw [← hmod]; exact ht'
      clear hmod hl0 hl2 hl3
      go_enter Try.func5, Try.ntmps5
      go_wp2_with fail
      refine (tlvc.head_any _).mono ?_
      rintro e wa ⟨rfl, hb1⟩
      go_wp2_with fail
      refine (tlvc.put_many _ _ _ _ _ ht' hn).mono ?_
      rintro e wb ⟨rfl, rfl⟩
      go_wp2_with fail
      go_ret
      exact ⟨rfl, hb1⟩
    · clear hmod
      obtain ⟨L, hL⟩ : ∃ L, (tlvc.putBytes a1 x2).length = L := ⟨_, rfl⟩
      have hLb := tlvc.putBytes_bound a1 x2 (by omega)
      rw [hL] at hLb
      have HL := Lib.hid hL
      have H0 := Lib.hid hl0
      have H2 := Lib.hid hl2
      have H3 := Lib.hid hl3
      clear hL hl0 hl2 hl3
      go_enter Try.func5, Try.ntmps5
      go_wp2_with fail
      refine (tlvc.head_any _).mono ?_
      rintro e wa ⟨rfl, hb1⟩
      have hx0 := w0.below hb1
      have hx2 := w2.below hb1
      have hx3 := w3.below hb1
      go_wp2_with fail
      refine (tlvc.put_ok _ _ _ _ x2 _ ht' hf.1 hf.2 (by omega) hx2).mono ?_
      unfold tlvc.PutPost
      rw [HL.out]
      rintro e wb ⟨g, cap, rfl, hown, hbb, hbelb⟩
      have hxb0 := hx0.below hbelb
      have hxb2 := hx2.below hbelb
      have hxb3 := hx3.below hbelb
      have hBb : Below w.heap.size w wb := hb1.trans (hbelb.mono hb1.size)
      clear hx0 hx2 hx3 hb1 hbelb hown
      have ho0 := World.ownsRow_lit (base := wb.heap.size) (e := 5) (size := 1) wb #[] 0 (Nat.le_refl _) (Nat.zero_le _) rfl
      go_wp2_with (at_builtin; refine tlvc.wpl_app rfl (.tmp 44) (.tmp 45) 22 rfl wb.heap.size 5 i0 (.int .u8 0) Try.underlying22 hi hz0 hz1 hz2 rfl _ 0 [] rfl ho0 a0 len0 cap0 x0 rfl (hxb0.alloc _) (by omega) (by simp) ?_)
      intro v1 wc ho1 hg1
      have hbc : Below wb.heap.size wb wc := ((Below.refl _ _).alloc (Nat.le_refl _) _).grown hg1 (by simp) fun j hj => (ho0.lt j hj).1
      clear hg1 ho0
      go_wp2_with (at_builtin; refine tlvc.wpl_app rfl (.tmp 46) (.tmp 47) 22 rfl wb.heap.size 5 i0 (.int .u8 0) Try.underlying22 hi hz0 hz1 hz2 rfl v1 len0 _ rfl ho1 _ L cap _ rfl (hbb.below hbc) (by omega) hbc.size ?_)
      intro v2 wd ho2 hg2
      have hbd : Below wb.heap.size wb wd := hbc.grown hg2 hbc.size fun j hj => (ho1.lt j hj).1
      clear hg2 ho1 hbc
      go_wp2_with (at_builtin; refine tlvc.wpl_app rfl (.tmp 48) (.tmp 49) 22 rfl wb.heap.size 5 i0 (.int .u8 0) Try.underlying22 hi hz0 hz1 hz2 rfl v2 (len0 + L) _ rfl ho2 a3 len3 cap3 x3 rfl (hxb3.below hbd) (by omega) hbd.size ?_)
      intro v3 we ho3 hg3
      have hbe : Below wb.heap.size wb we := hbd.grown hg3 hbd.size fun j hj => (ho2.lt j hj).1
      clear hg3 ho2 hbd
      obtain ⟨A, c, hv, hAc, hcm, hA⟩ := tlvc.own_shape ho3
      obtain ⟨gg, hAg, _, _⟩ := hA 0 (by omega)
      rw [hAg] at hv
      subst hv
      clear hA
      obtain ⟨F, T, h1, h2, h3, h4, h5⟩ := tlvc.back_head a1 x2 x0 x3 ht' (by rw [H2.out]; omega)
      have hTN : T ≤ len0 + L + len3 := by rw [h3, H0.out, HL.out]; omega
      have hFT : F ≤ T := by omega
      have hT : T = len0 + L := by rw [h3, H0.out, HL.out]
      have hF : T = F + len2 := by rw [h2, H2.out]
      have hfy : tlvc.Fit (tlvc.putBytes a1 x2) := hbb.fit
      have hall : tlvc.Bys we (some ⟨gg, 0, none⟩) (len0 + L + len3) (x0 ++ (tlvc.putBytes a1 x2 ++ x3)) := by
        refine tlvc.Bys.own (base := wb.heap.size) (e := 5) (c := c) ?_ (w0.fit.app (hfy.app w3.fit))
        rw [tlvc.vals_append, tlvc.vals_append]
        exact ho3
      have hB : Below w.heap.size w we := hBb.trans (hbe.mono hBb.size)
      have hx2 := hxb2.below hbe
      have hx3 := hxb3.below hbe
      have hlt : (T : Int) = len0 + L := by omega
      generalize hN : len0 + L + len3 = N at hAc hTN hall ⊢
      have hs1 := tlvc.str_cut hall hFT hTN hAc h5
      have hs2 := tlvc.str_all hx2 cap2
      have d0 : decide ((F : Int) < 0) = false := by simp
      have d1 : decide (N < T) = false := by simp; omega
      have d2 : IntKind.i64.wrap ((T : Int) - F) = len2 := by rw [IntWalk.i64_in _ (by omega)]; omega
      have d3 : IntKind.i64.wrap ((len0 : Int) + L) = T := by rw [IntWalk.i64_in _ (by omega)]; omega
      have b1 : (F : Int) ≤ T := by omega
      have b2 : (T : Int) ≤ c := by omega
      have H4 := Lib.hid h4
      have D2 := Lib.hid d2
      have D3 := Lib.hid d3
      have HN := Lib.hid hN
      rw [H0.out] at H4
      clear h1 h2 h3 h4 h5 hT hF hlt ho3 hxb0 hxb2 hxb3 hbb hBb hbe d2 d3 hN hfy
      go_wp2_with fail
      refine (tlvc.headE_any _ N c (x0 ++ (tlvc.putBytes a1 x2 ++ x3)) _ _ hall hAc hcm).mono ?_
      rw [H4.out]
      rintro e w' ⟨rfl, rfl⟩
      go_wp2_with fail
      have d2 := D2.out
      have d3 := D3.out
      go_quiet (fail)
      clear d2 d3
      go_wp2_with fail
      all_goals
        clear hs1 hs2 d0 d1 b1 b2 hall hTN hFT
        have hq := tlvc.below_drewN hB
        refine (tlvc.headE_any _ len3 cap3 x3 0 _ (hx3.drewN _) l3 (by unfold maxLen; omega)).mono ?_
        rcases tlvc.back_two x3 w3.fit with ⟨n, e1, e2⟩ | ⟨T3, F3, Z3, e1, e2, e3, e4, e5, e6, e7, e8⟩
        · rw [e1]
          rintro e w' ⟨rfl, rfl⟩
          simp only [tlvc.No]
          clear e1
          go_wp2_with fail
          go_ret
          exact ⟨rfl, hq _⟩
        · rw [e1]
          rintro e w' ⟨rfl, rfl⟩
          clear e1
          rw [H3.out] at e6
          obtain ⟨b, off, ha, hbs, hcs⟩ := hx3.2.2 (by omega)
          subst ha
          have hsub := (hx3.cut (k := F3) (cap := cap3) (by omega) l3).upto (k := Z3 - F3) (by omega)
          have hpre := hx3.upto (k := Z3) (by omega)
          have b1 : (F3 : Int) ≤ Z3 := by omega
          have b2 : (Z3 : Int) ≤ cap3 := by omega
          have b3 : (0 : Int) ≤ F3 := by omega
          have eA : (Option.map (fun x : Addr => x.add F3) (some (⟨b, off, none⟩ : Addr))) = some ⟨b, off + F3, none⟩ := by simp [Addr.add_lit]
          rw [eA] at hsub
          clear eA hcs
          have hZl : (x3.take Z3).length = Z3 := by rw [List.length_take, H3.out]; omega
          have HZ := Lib.hid hZl
          have E8 := Lib.hid e8
          clear hZl e8
          by_cases hcF : cap3 = F3
          · rw [if_pos hcF] at hsub
            subst hcF
            go_wp2_with fail
            have e8 := E8.out
            have hZl := HZ.out
            refine (tlvc.put_ok _ _ _ _ _ _ e2 e3.1 e3.2 e7 (hsub.drewN _)).mono ?_
            unfold tlvc.PutPost
            rw [e8, hZl]
            rintro e w6 ⟨g6, c6, rfl, ho6, hb6, hbel6⟩
            have hs1 := tlvc.str_all hb6 c6
            have hs2 := tlvc.str_all ((hpre.drewN nq).below hbel6) cap3
            have hend : Below w.heap.size w w6 := (hq nq).trans (hbel6.mono (hq nq).size)
            clear ho6 hb6 hbel6 hsub hpre e8 hZl
            go_wp2_with fail
            go_quiet (fail)
            go_wp2_with fail
            go_ret
            exact ⟨rfl, tlvc.below_drewN hend _⟩
          · rw [if_neg hcF] at hsub
            go_wp2_with fail
            have e8 := E8.out
            have hZl := HZ.out
            refine (tlvc.put_ok _ _ _ _ _ _ e2 e3.1 e3.2 e7 (hsub.drewN _)).mono ?_
            unfold tlvc.PutPost
            rw [e8, hZl]
            rintro e w6 ⟨g6, c6, rfl, ho6, hb6, hbel6⟩
            have hs1 := tlvc.str_all hb6 c6
            have hs2 := tlvc.str_all ((hpre.drewN nq).below hbel6) cap3
            have hend : Below w.heap.size w w6 := (hq nq).trans (hbel6.mono (hq nq).size)
            clear ho6 hb6 hbel6 hsub hpre e8 hZl
            go_wp2_with fail
            go_quiet (fail)
            go_wp2_with fail
            go_ret
            exact ⟨rfl, tlvc.below_drewN hend _⟩

set_option maxRecDepth 100000 in
theorem lifted (os : Os) (started : os.Started) (H : Type) (enc : TypeId × Value → H) (F : Stop.Interp) :
    ReturnsInHanded {} Try.checked os 5 .any ((Rows.OpenSpec.upto Rows.tlvBackSpec).pre6 enc Try.prog Try.f5 Rows.tlvBackUptoRow.domain false) (((Rows.OpenSpec.upto Rows.tlvBackSpec).at F).post enc Try.prog Try.f5 false true false false) := by
  refine returnsInHanded_of_cond_sized (C := Try.checked) (s := Rows.OpenSpec.upto Rows.tlvBackSpec) (k := Rows.uptoSmall) rfl own started (by kernel_rfl) Try.func5
    (OpenSpec.witness (enc := enc) (C := Try.checked) (s := Rows.OpenSpec.upto Rows.tlvBackSpec) (k := Rows.uptoSmall) rfl false ⟨#[], #[.slice none 0 0, .int .u8 0, .slice none 0 0, .slice none 0 0], []⟩ 8 (by kernel_rfl) (by kernel_rfl) (by kernel_rfl)
      (x := ([.nil, .lit (.int .u8 0), .nil, .nil], [], [])) (by kernel_rfl) rfl (by kernel_rfl)) ?_
  intro W base args ds gs before hval0 hW hcnd hk hsz0 _
  have hval : ∀ (j : Nat) t v, Try.f5.params[j]? = some t → args[j]? = some v → Value.okWide Try.prog W .any base t v := hval0
  have hW' := hW
  obtain ⟨p, q, hA0, hV, rfl, hfz, hnd⟩ := hW
  have hA : DataW.TrodAll enc Try.prog W 0 (fun _ => true) true Try.f5.params.toList args.toList ds p := hA0
  have hsz : (DataW.weightsEach Try.prog (Try.f5.params.toList ++ (Rows.OpenSpec.upto Rows.tlvBackSpec).bare.plain.varTypes Try.prog) (ds ++ gs)).all (· ≤ reachBytes) = true := hsz0
  rw [Try.params5] at hA hval hsz
  obtain ⟨v0, vs0, d0, ds0, p0, q0, hargs, rfl, rfl, h0, r_0⟩ := trodAll_cons hA
  obtain ⟨v1, vs1, d1, ds1, p1, q1, rfl, rfl, rfl, h1, r_1⟩ := trodAll_cons r_0
  obtain ⟨v2, vs2, d2, ds2, p2, q2, rfl, rfl, rfl, h2, r_2⟩ := trodAll_cons r_1
  obtain ⟨v3, vs3, d3, ds3, p3, q3, rfl, rfl, rfl, h3, r_3⟩ := trodAll_cons r_2
  obtain ⟨rfl, rfl, rfl⟩ := trodAll_nil r_3
  obtain rfl : args = #[v0, v1, v2, v3] := by cases args; simp_all
  obtain ⟨rfl, rfl⟩ := trodVars_none hV
  obtain ⟨a0, len0, cap0, rfl⟩ := okWide_slice Try.underlying22 (hval 0 22 v0 rfl rfl)
  have k0 := h0
  have lt0 : ∀ x ∈ p0, x.block < W.heap.size := by obtain ⟨m, hm⟩ := k0; exact DataW.trod_lt m _ _ _ hm
  obtain ⟨x0, w0, l0, m0, s0⟩ := tlvc.open_bys Try.underlying22 Try.underlying5 (by kernel_rfl) h0
  have r0 := tlvc.spots_small hk s0 (j := 0) rfl
  obtain ⟨a1, rfl, rfl, rfl, w1⟩ := open_int Try.underlying5 (hval 1 5 v1 rfl rfl) h1
  obtain ⟨a2, len2, cap2, rfl⟩ := okWide_slice Try.underlying22 (hval 2 22 v2 rfl rfl)
  have k2 := h2
  have lt2 : ∀ x ∈ p2, x.block < W.heap.size := by obtain ⟨m, hm⟩ := k2; exact DataW.trod_lt m _ _ _ hm
  obtain ⟨x2, w2, l2, m2, s2⟩ := tlvc.open_bys Try.underlying22 Try.underlying5 (by kernel_rfl) h2
  have r2 := tlvc.spots_small hk s2 (j := 2) rfl
  obtain ⟨a3, len3, cap3, rfl⟩ := okWide_slice Try.underlying22 (hval 3 22 v3 rfl rfl)
  have k3 := h3
  have lt3 : ∀ x ∈ p3, x.block < W.heap.size := by obtain ⟨m, hm⟩ := k3; exact DataW.trod_lt m _ _ _ hm
  obtain ⟨x3, w3, l3, m3, s3⟩ := tlvc.open_bys Try.underlying22 Try.underlying5 (by kernel_rfl) h3
  have r3 := tlvc.spots_small hk s3 (j := 3) rfl
  clear hA0 hval0
  refine (walk a0 len0 cap0 x0 a1 a2 len2 cap2 x2 a3 len3 cap3 x3 W w0 l0 r0 w1 w2 l2 r2 w3 l3 r3).mono fun e W' ⟨he, bel⟩ => ?_
  subst he
  exact ⟨_, rfl, _, _, _, [], _, [], hW', trodAll_mk1 (shut_bool Try.underlying4 _), (trodAll_cons_mk (Below.trod laidOut (by kernel_rfl) (of_decide_eq_true (by kernel_rfl)) k0 bel lt0) (trodAll_cons_mk (shut_int Try.underlying5 w1) (trodAll_cons_mk (Below.trod laidOut (by kernel_rfl) (of_decide_eq_true (by kernel_rfl)) k2 bel lt2) (trodAll_cons_mk (Below.trod laidOut (by kernel_rfl) (of_decide_eq_true (by kernel_rfl)) k3 bel lt3) trodAll_mk0)))), rfl, bel.frame _, fun h => by cases h⟩

theorem over : Rows.tlvBackUptoRow.holds Try.pinned (Rows.OpenSpec.upto Rows.tlvBackSpec) :=
  OpenClaim.holds_of_cond 5 Try.f5 rfl rfl rfl rfl rfl rfl rfl ⟨rfl, rfl, rfl, rfl, rfl⟩ rfl rfl rfl rfl rfl (by kernel_rfl) Try.func5 (by kernel_rfl)
    (of_decide_eq_true (by kernel_rfl)) (by unfold Func.isWrapper; first | (rw [if_pos (by decide +kernel)]; kernel_rfl) | (rw [if_neg (by decide +kernel)]; exact ⟨rfl, rfl⟩))
    (fun os started H enc _ F => lifted os started H enc F)

theorem proved : Rows.TlvBackUptoSaid := over
#print axioms proved
end Go.Proofs.Ytpfdebelpfcofaa.tlvBackUpto
