/- The law TlvRow of warderlaw01 answers true for every tag and every list of bodies, and leaves its arguments as they were; no condition. -/
import Derived.Test.YtpfdebelpfcofaaRows
import Derived.WalkKit
import Derived.ProofKit
import Derived.OpenShut
import Derived.ChangeOld
import Derived.Below
import Derived.SizedLaws
import Derived.Test.YtpfdebelpfcofaaTlvO
import Derived.Test.YtpfdebelpfcofaaTlvQ
namespace Go.Proofs.Ytpfdebelpfcofaa.tlvRow
open Go.ChangeShapes Go.WideShapes Go.ChangeAt Go.RowKit
set_option linter.unusedVariables false

theorem own : ownKnob Try.prog.godebug = none := by kernel_rfl
theorem laidOut : laidOutB Try.prog = true := by kernel_rfl


set_option maxRecDepth 100000 in
set_option maxHeartbeats 1000000 in
theorem walk (a0 : Int) (a1 : Option Addr) (len1 cap1 : Nat) (x1 : List (List Int)) (w : World) (w0 : (Lit.int .u8 a0).wf = true) (w1 : tlvc.Bss w a1 len1 x1) (l1 : len1 ≤ cap1) (r1 : cap1 ≤ 140737488351232) :
    Calls Try.prog 8 #[.int .u8 a0, .slice a1 len1 cap1] w fun e w' => e = .returned (.bool true) ∧ Below w.heap.size w w' := by
  have hf := bounds_u8 w0
  obtain ⟨i0, hi, hz0, hz1, hz2⟩ := info_parts tlvc.Try.info5
  have hlen := w1.1
  have HLen := Lib.hid hlen
  clear hlen
  by_cases h100 : 100 < len1
  · go_enter Try.func8, Try.ntmps8
    go_wp2_with fail
    refine (tlvc.head_any _).mono ?_
    rintro e w2 ⟨rfl, hb1⟩
    go_wp2_with fail
    go_ret
    exact ⟨rfl, hb1⟩
  · go_enter Try.func8, Try.ntmps8
    go_wp2_with fail
    refine (tlvc.head_any _).mono ?_
    rintro e w2 ⟨rfl, hb1⟩
    go_wp2_with fail
    go_loopw [6, 7] (fun v i wr => ∃ k : Nat, k ≤ len1 ∧ i = .int .i64 k ∧ wr.ownsRow w.heap.size 5 1 v (tlvc.catN a0 x1 k).length (tlvc.vals (tlvc.catN a0 x1 k)) ∧ (tlvc.catN a0 x1 k).length ≤ 365539 ∧ (∀ j, j < k → tlvc.Fit (x1.getD j []) ∧ (x1.getD j []).length ≤ 65535 ∧ tlvc.endlessB a0 = false) ∧ Below w.heap.size w wr) (fun _ i _ => len1 - (intOf i).toNat)
    case atStart => exact ⟨0, Nat.zero_le _, rfl, World.ownsRow_nil _ _ _ _, Nat.zero_le _, fun j hj => absurd hj (by omega), hb1⟩
    case round =>
      obtain ⟨k, hk, rfl, hown, hcl, hok, hbel⟩ := hrel
      by_cases hlt : k < len1
      · obtain ⟨b, off, ha, hbs, hcs⟩ := (w1.below hbel).2 (by omega)
        subst ha
        obtain ⟨Aj, nj, cj, hcell, hbj, hjc, hjm⟩ := hcs k hlt
        obtain ⟨N, hN⟩ : ∃ N, (tlvc.catN a0 x1 k).length = N := ⟨_, rfl⟩
        rw [hN] at hown hcl
        have HN := Lib.hid hN
        clear hN
        obtain ⟨A, c, hv, hAc, hcm, hA⟩ := tlvc.own_shape hown
        subst hv
        clear hcs
        obtain ⟨Y, hY⟩ : ∃ Y, (tlvc.putF a0 (x1.getD k [])).1 = Y := ⟨_, rfl⟩
        obtain ⟨E, hE⟩ : ∃ E, (tlvc.putF a0 (x1.getD k [])).2 = E := ⟨_, rfl⟩
        have HY := Lib.hid hY
        have HE := Lib.hid hE
        clear hY hE
        go_wp2_with fail
        refine (tlvc.put_all _ _ _ _ (x1.getD k []) _ hf hbj).mono ?_
        rw [HY.out, HE.out]
        rintro e w4 ⟨A4, c4, rfl, hb4, hc4, hfr4, hbel4⟩
        rcases tlvc.putF_cases a0 (x1.getD k []) with ⟨e1, e2⟩ | ⟨e1, e2, e3, e4⟩
        · rw [HE.out] at e2
          have hE0 : (E != 0) = true := by rw [bne, e2]; rfl
          have hend : Below w.heap.size w w4 := hbel.trans (hbel4.mono hbel.size)
          clear e1 e2 hb4 hfr4 hbel4 hown hok hbel hA
          go_wp2_with fail
          go_ret
          exact ⟨rfl, hend⟩
        · rw [HE.out] at e2
          subst e2
          by_cases hbig : 300000 < N
          · have hend : Below w.heap.size w w4 := hbel.trans (hbel4.mono hbel.size)
            clear e1 hb4 hfr4 hbel4 hown hok hbel hA
            go_wp2_with fail
            go_ret
            exact ⟨rfl, hend⟩
          · have hown4 := tlvc.own_below hown hbel4
            have hbound := tlvc.putBytes_bound a0 (x1.getD k []) e4
            rw [HY.out] at e1
            have hYl : Y.length ≤ 65539 := by rw [e1]; exact hbound.2
            have E1 := Lib.hid e1
            have hbase : w.heap.size ≤ w4.heap.size := Nat.le_trans hbel.size hbel4.size
            clear e1 hown
            go_wp2_with (at_builtin; refine tlvc.wpl_app rfl (.tmp 44) (.tmp 45) 22 rfl w.heap.size 5 i0 (.int .u8 0) Try.underlying22 hi hz0 hz1 hz2 rfl _ N _ rfl hown4 A4 Y.length c4 Y rfl hb4 (by omega) hbase ?_)
            intro v5 w5 hown5 hg5
            have hend : Below w.heap.size w w5 := (hbel.trans (hbel4.mono hbel.size)).grown hg5 hbase fun j hj => (hown4.lt j hj).1
            clear hg5 hown4 hbel4 hb4 hfr4 hA
            go_wp2_with fail
            go_roundw
            case rel =>
              have hs := tlvc.catN_succ a0 x1 k (by rw [HLen.out]; omega)
              have hsl : (tlvc.catN a0 x1 (k + 1)).length = N + Y.length := by rw [hs, List.length_append, HN.out, ← E1.out]
              refine ⟨k + 1, by omega, by go_num, ?_, by omega, ?_, hend⟩
              · rw [hsl, hs, tlvc.vals_append, ← E1.out]; exact hown5
              · intro j hj
                by_cases hjk : j = k
                · subst hjk; exact ⟨hbj.fit, e4, e3⟩
                · exact hok j (by omega)
            case measure => simp [intOf]; omega
      · have hkl : k = len1 := by omega
        subst hkl
        obtain ⟨N, hN⟩ : ∃ N, (tlvc.catN a0 x1 k).length = N := ⟨_, rfl⟩
        rw [hN] at hown hcl
        have HN := Lib.hid hN
        clear hN
        obtain ⟨A, c, hv, hAc, hcm, hA⟩ := tlvc.own_shape hown
        subst hv
        have hfit := tlvc.catN_fit a0 x1 hf k (fun j hj => ⟨(hok j hj).1, (hok j hj).2.1⟩) (by rw [HLen.out]; omega)
        have hall := tlvc.Bys.own hown hfit
        have hl1 := w1.below hbel
        clear hown
        obtain ⟨wf, hwf⟩ : ∃ wf, wf = wr := ⟨_, rfl⟩
        subst hwf
        go_wp2_with fail
        go_loopw [10, 11] (fun t i wr => ∃ j : Nat, j ≤ k ∧ i = .int .i64 j ∧ t = .int .i64 ((tlvc.catN a0 x1 j).length : Nat) ∧ ∃ q, wr = wf.drewN q) (fun _ i _ => k - (intOf i).toNat)
        case atStart => exact ⟨0, Nat.zero_le _, rfl, rfl, 0, rfl⟩
        case round =>
          obtain ⟨j, hj, rfl, rfl, q, rfl⟩ := hrel
          by_cases hjl : j < k
          · obtain ⟨F, T, h1, h2, h3, h4, h5, h6⟩ := tlvc.row_head a0 x1 j (by rw [HLen.out]; omega) (hok j hjl).2.2 (hok j hjl).2.1
            rw [HLen.out] at h3 h5 h6
            rw [HN.out] at h3
            obtain ⟨P, hP⟩ : ∃ P, (tlvc.catN a0 x1 j).length = P := ⟨_, rfl⟩
            rw [hP] at h1 h5
            have HP := Lib.hid hP
            have H4 := Lib.hid h4
            have H5 := Lib.hid h5
            obtain ⟨b, off, ha, hbs, hcs⟩ := hl1.2 (by omega)
            obtain ⟨Aj, nj, cj, hcell, hbj, hjc, hjm⟩ := hcs j hjl
            have hTN : 0 < N := by
              have := tlvc.putBytes_bound a0 (x1.getD j []) (hok j hjl).2.1
              have e := tlvc.catN_succ a0 x1 j (by rw [HLen.out]; omega)
              have e2 : T = (tlvc.catN a0 x1 j).length + (tlvc.putBytes a0 (x1.getD j [])).length := by rw [h4, e, List.length_append]
              omega
            obtain ⟨g, hA', _, _⟩ := hA 0 hTN
            subst ha hA'
            have hs1 := tlvc.str_cut hall h2 h3 hAc h6
            have hs2 := tlvc.str_all hbj cj
            have d1 : decide (F < P) = false := by simp; omega
            have d2 : decide (N < T) = false := by simp; omega
            have b1 : (F : Int) ≤ T := by omega
            have b2 : (T : Int) ≤ c := by omega
            have b3 : (j : Int) < k := by omega
            clear h4 h5 h6 hP hcs hA
            go_wp2_with fail
            refine (tlvc.headE_any _ N c (tlvc.catN a0 x1 k) _ _ (hall.drewN q) hAc hcm).mono ?_
            rw [HP.out, H5.out]
            rintro e w' ⟨rfl, rfl⟩
            go_wp2_with fail
            go_quiet (fail)
            go_wp2_with fail
            all_goals
              go_roundw
              case rel => exact ⟨j + 1, by omega, by go_num, by rw [← H4.out], _, rfl⟩
              case measure => simp [intOf]; omega
          · obtain rfl : j = k := by omega
            rw [HN.out]
            go_wp2_with fail
            go_ret
            exact ⟨rfl, tlvc.below_drewN hbel q⟩

set_option maxRecDepth 100000 in
theorem lifted (os : Os) (started : os.Started) (H : Type) (enc : TypeId × Value → H) :
    ReturnsInHanded {} Try.checked os 8 .any (Rows.tlvRowSpec.pre6 enc Try.prog Try.f8 Rows.tlvRowRow.domain false) (Rows.tlvRowSpec.post enc Try.prog Try.f8 false true false false) := by
  refine returnsInHanded_of_change_sized (C := Try.checked) own started (by kernel_rfl) Try.func8
    (ChangeSpec.witness6 (enc := enc) (C := Try.checked) false ⟨#[], #[.int .u8 0, .slice none 0 0], []⟩ 8 (by kernel_rfl) (by kernel_rfl) (by kernel_rfl) (by kernel_rfl)) ?_
  intro W base args ds gs before hval0 hW hcnd hsz0 _
  have hval : ∀ (j : Nat) t v, Try.f8.params[j]? = some t → args[j]? = some v → Value.okWide Try.prog W .any base t v := hval0
  have hW' := hW
  obtain ⟨p, q, hA0, hV, rfl, hfz, hnd⟩ := hW
  have hA : DataW.TrodAll enc Try.prog W 0 (fun _ => true) true Try.f8.params.toList args.toList ds p := hA0
  have hsz : (DataW.weightsEach Try.prog (Try.f8.params.toList ++ Rows.tlvRowSpec.plain.varTypes Try.prog) (ds ++ gs)).all (· ≤ reachBytes) = true := hsz0
  rw [Try.params8] at hA hval hsz
  obtain ⟨v0, vs0, d0, ds0, p0, q0, hargs, rfl, rfl, h0, r_0⟩ := trodAll_cons hA
  obtain ⟨v1, vs1, d1, ds1, p1, q1, rfl, rfl, rfl, h1, r_1⟩ := trodAll_cons r_0
  obtain ⟨rfl, rfl, rfl⟩ := trodAll_nil r_1
  obtain rfl : args = #[v0, v1] := by cases args; simp_all
  obtain ⟨rfl, rfl⟩ := trodVars_none hV
  obtain ⟨a0, rfl, rfl, rfl, w0⟩ := open_int Try.underlying5 (hval 0 5 v0 rfl rfl) h0
  obtain ⟨a1, len1, cap1, rfl⟩ := okWide_slice Try.underlying34 (hval 1 34 v1 rfl rfl)
  have k1 := h1
  have lt1 : ∀ x ∈ p1, x.block < W.heap.size := by obtain ⟨m, hm⟩ := k1; exact DataW.trod_lt m _ _ _ hm
  obtain ⟨x1, w1, l1, m1, s1⟩ := tlvc.open_bss Try.underlying34 Try.underlying22 Try.underlying5 (by kernel_rfl) (by kernel_rfl) h1
  have r1 := tlvc.spots_reach hsz s1 (j := 1) rfl rfl Try.underlying34 (of_decide_eq_true (by kernel_rfl))
  clear hA0 hval0
  refine (walk a0 a1 len1 cap1 x1 W w0 w1 l1 r1).mono fun e W' ⟨he, bel⟩ => ?_
  subst he
  exact ⟨_, rfl, _, _, _, [], _, [], hW', trodAll_mk1 (shut_bool Try.underlying4 _), (trodAll_cons_mk (shut_int Try.underlying5 w0) (trodAll_cons_mk (Below.trod laidOut (by kernel_rfl) (of_decide_eq_true (by kernel_rfl)) k1 bel lt1) trodAll_mk0)), rfl, bel.frame _, fun h => by cases h⟩

theorem over : Rows.tlvRowRow.holds Try.pinned (OpenSpec.ofChange Rows.tlvRowSpec) :=
  OpenClaim.holds_of_wide 8 Try.f8 rfl rfl rfl rfl rfl rfl rfl ⟨rfl, rfl, rfl, rfl, rfl⟩ rfl rfl rfl rfl rfl (by kernel_rfl) Try.func8 (by kernel_rfl)
    (of_decide_eq_true (by kernel_rfl)) (by unfold Func.isWrapper; first | (rw [if_pos (by decide +kernel)]; kernel_rfl) | (rw [if_neg (by decide +kernel)]; exact ⟨rfl, rfl⟩))
    (fun os started H enc _ => lifted os started H enc)

theorem proved : Rows.TlvRowSaid := over
#print axioms proved
end Go.Proofs.Ytpfdebelpfcofaa.tlvRow
