/- The law TextsTimes of warderlaw03 answers true for all numbers of seconds, every tag and every body, and leaves its arguments as they were; no condition but that the library's two tables are as its text lays them. -/
import Derived.Test.YtajiolcdjjkedaaDoorCards
import Derived.Test.YtajiolcdjjkedaaDoorTie
import Derived.WalkKit
import Derived.ProofKit
import Derived.OpenShut
import Derived.ChangeOld
import Derived.Below
import Derived.SizedLaws
import Derived.Test.YtajiolcdjjkedaaDoorTlvO
import Derived.Test.YtajiolcdjjkedaaDoorTxY
import Derived.Test.YtajiolcdjjkedaaDoorTxW
import Derived.Test.YtajiolcdjjkedaaDoorTxZ6
namespace Go.Proofs.YtajiolcdjjkedaaDoor.textsTimes
open Go.ChangeShapes Go.WideShapes Go.ChangeAt Go.RowKit
set_option linter.unusedVariables false

theorem own : ownKnob Tryd.prog.godebug = none := by kernel_rfl
theorem laidOut : laidOutB Tryd.prog = true := by kernel_rfl

open Go.Proofs.YtajiolcdjjkedaaDoor.tlvc Go.Proofs.YtajiolcdjjkedaaDoor.txc Go.Proofs.YtajiolcdjjkedaaDoor.txm

set_option maxRecDepth 100000 in
set_option maxHeartbeats 8000000 in
theorem walk (a0 : Int) (a1 : Int) (a2 : Option Addr) (len2 cap2 : Nat) (x2 : List Int) (w : World) (w0 : (Lit.int .i64 a0).wf = true) (w1 : (Lit.int .u8 a1).wf = true) (w2 : tlvc.Bys w a2 len2 x2) (l2 : len2 ≤ cap2) (r2 : cap2 ≤ 140737488351232) (hT : txc.Tabs w) :
    Calls Tryd.prog 5 #[.int .i64 a0, .int .u8 a1, .slice a2 len2 cap2] w fun e w' => e = .returned (.bool true) ∧ Below w.heap.size w w' := by
  obtain ⟨T, hT0⟩ : ∃ T, putT a0 = T := ⟨_, rfl⟩
  obtain ⟨ys, hY0⟩ : ∃ ys, putB a0 = ys := ⟨_, rfl⟩
  obtain ⟨E, hE0⟩ : ∃ E, putE a0 = E := ⟨_, rfl⟩
  obtain ⟨N, hN0⟩ : ∃ N, timeN a1 x2 = N := ⟨_, rfl⟩
  obtain ⟨Q, hQ0⟩ : ∃ Q, timeE a1 x2 = Q := ⟨_, rfl⟩
  have HT := Lib.hid hT0
  have HY := Lib.hid hY0
  have HE := Lib.hid hE0
  have HN := Lib.hid hN0
  have HQ := Lib.hid hQ0
  clear hT0 hY0 hE0 hN0 hQ0
  go_enter Tryd.func5, Tryd.ntmps5
  go_wp2_with fail
  refine (head_any _).mono ?_
  rintro e wa ⟨rfl, hba⟩
  go_wp2_with fail
  refine (putTime_any _ _).mono ?_
  rw [HT.out, HY.out, HE.out]
  rintro e wb ⟨A, c, rfl, hh0, hb0⟩
  have hB0 := then_ hba hb0
  have hx0 := hh0.1
  clear hba hb0 hh0
  go_wp2_with fail
  refine (refPutTime_any _ _).mono ?_
  rw [HT.out, HY.out, HE.out]
  rintro e wc ⟨A1, c1, rfl, hh1, hb1⟩
  have hB1 := then_ hB0 hb1
  have hx1 := hx0.below hb1
  have hy1 := hh1.1
  clear hB0 hb1 hx0 hh1
  go_wp2_with fail
  refine (Time_any _ _ _ _ _ _ (w2.below hB1) l2 (by omega)).mono ?_
  rw [HN.out, HQ.out]
  rintro e wd ⟨rfl, hbd⟩
  have hB2 := then_ hB1 hbd
  have hx2 := hx1.below hbd
  have hy2 := hy1.below hbd
  clear hB1 hbd hx1 hy1
  go_wp2_with fail
  refine (refTime_any _ _ _ _ _ _ (w2.below hB2) l2 (by omega)).mono ?_
  unfold TimeIs
  rw [HN.out, HQ.out]
  rintro e we ⟨rfl, hbe⟩
  have hB3 := then_ hB2 hbe
  have s1 := str_now (hx2.below hbe) c
  have s2 := str_now (hy2.below hbe) c1
  clear hB2 hbe hx2 hy2 HT HY HE HN HQ
  go_wp2
  go_ret
  exact ⟨rfl, hB3⟩

theorem reads (os : Os) {H : Type} (enc : TypeId × Value → H) : ∃ places, DataW.whole enc Tryd.prog ((txc.laidWorld os).forCall (fun _ _ => 0) ⟨#[], #[.int .i64 0, .int .u8 0, .slice none 0 0], []⟩).memory Tryd.f5.params.toList Rows.textsTimesSpec.vars false (#[.int .i64 0, .int .u8 0, .slice none 0 0] : Array Value).toList 8 = some ([.lit (.int .i64 0), .lit (.int .u8 0), .nil], [], places) :=
  ⟨[], by kernel_rfl⟩
set_option maxRecDepth 100000 in
theorem lifted (os : Os) (started : os.Started) (H : Type) (enc : TypeId × Value → H) (F : Stop.Interp) :
    ReturnsInHanded {} Tryd.checked os 5 .any ((OpenSpec.ofChange Rows.textsTimesSpec).preRow enc Tryd.prog Tryd.f5 Rows.textsTimesRow.domain false Rows.textsTimesRow.laid) (((OpenSpec.ofChange Rows.textsTimesSpec).at F).post enc Tryd.prog Tryd.f5 false true false false) := by
  obtain ⟨places, hx⟩ := reads os enc
  refine returnsInHanded_of_row (C := Tryd.checked) (s := (OpenSpec.ofChange Rows.textsTimesSpec)) own started (by kernel_rfl) Tryd.func5
    (witness_row_at (enc := enc) (C := Tryd.checked) false (txc.laidWorld os) #[.int .i64 0, .int .u8 0, .slice none 0 0] rfl (by kernel_rfl) (by kernel_rfl) (by kernel_rfl)
      (OpenSpec.preRow_of_cond 8 hx (by kernel_rfl) (fun k hk => by cases hk) (by kernel_rfl) (txc.laid_met os _))) ?_
  intro W base args ds gs before hval0 hW hcnd hcond hsz0 hL _ _
  have hval : ∀ (j : Nat) t v, Tryd.f5.params[j]? = some t → args[j]? = some v → Value.okWide Tryd.prog W .any base t v := hval0
  have hW' := hW
  obtain ⟨p, q, hA0, hV, rfl, hfz, hnd⟩ := hW
  have hA : DataW.TrodAll enc Tryd.prog W 0 (fun _ => true) true Tryd.f5.params.toList args.toList ds p := hA0
  have hsz : (DataW.weightsEach Tryd.prog (Tryd.f5.params.toList ++ (OpenSpec.ofChange Rows.textsTimesSpec).bare.plain.varTypes Tryd.prog) (ds ++ gs)).all (· ≤ reachBytes) = true := hsz0
  rw [Tryd.params5] at hA hval hsz
  obtain ⟨v0, vs0, d0, ds0, p0, q0, hargs, rfl, rfl, h0, r_0⟩ := trodAll_cons hA
  obtain ⟨v1, vs1, d1, ds1, p1, q1, rfl, rfl, rfl, h1, r_1⟩ := trodAll_cons r_0
  obtain ⟨v2, vs2, d2, ds2, p2, q2, rfl, rfl, rfl, h2, r_2⟩ := trodAll_cons r_1
  obtain ⟨rfl, rfl, rfl⟩ := trodAll_nil r_2
  obtain rfl : args = #[v0, v1, v2] := by cases args; simp_all
  obtain ⟨rfl, rfl⟩ := trodVars_none hV
  obtain ⟨a0, rfl, rfl, rfl, w0⟩ := open_int Tryd.underlying2 (hval 0 2 v0 rfl rfl) h0
  obtain ⟨a1, rfl, rfl, rfl, w1⟩ := open_int Tryd.underlying5 (hval 1 5 v1 rfl rfl) h1
  obtain ⟨a2, len2, cap2, rfl⟩ := okWide_slice Tryd.underlying22 (hval 2 22 v2 rfl rfl)
  have k2 := h2
  have lt2 : ∀ x ∈ p2, x.block < W.heap.size := by obtain ⟨m, hm⟩ := k2; exact DataW.trod_lt m _ _ _ hm
  obtain ⟨x2, w2, l2, m2, s2⟩ := tlvc.open_bys Tryd.underlying22 Tryd.underlying5 (by kernel_rfl) h2
  have r2 := tlvc.spots_reach hsz s2 (j := 2) rfl rfl Tryd.underlying22 (of_decide_eq_true (by kernel_rfl))
  clear hA0 hval0
  have hT : txc.Tabs W := txc.tabs_of hL
  refine (walk a0 a1 a2 len2 cap2 x2 W w0 w1 w2 l2 r2 hT).mono fun e W' ⟨he, bel⟩ => ?_
  subst he
  exact ⟨_, rfl, _, _, _, [], _, [], hW', trodAll_mk1 (shut_bool Tryd.underlying4 _), (trodAll_cons_mk (shut_int Tryd.underlying2 w0) (trodAll_cons_mk (shut_int Tryd.underlying5 w1) (trodAll_cons_mk (Below.trod laidOut (by kernel_rfl) (of_decide_eq_true (by kernel_rfl)) k2 bel lt2) trodAll_mk0))), rfl, bel.frame _, fun h => by cases h⟩

theorem over : Rows.textsTimesRow.holds Tryd.pinned (OpenSpec.ofChange Rows.textsTimesSpec) :=
  OpenClaim.holds_of_cond 5 Tryd.f5 rfl rfl rfl rfl rfl rfl rfl ⟨rfl, rfl, rfl, rfl, rfl⟩ rfl rfl rfl rfl rfl (by kernel_rfl) Tryd.func5 (by kernel_rfl)
    (of_decide_eq_true (by kernel_rfl)) (by unfold Func.isWrapper; first | (rw [if_pos (by decide +kernel)]; kernel_rfl) | (rw [if_neg (by decide +kernel)]; exact ⟨rfl, rfl⟩))
    (fun os started H enc _ F => by rw [OpenClaim.pre_eq_preRow]; exact lifted os started H enc F)

theorem plain (f : FuncId) (fn : Func) (hf : Tryd.pinned.checked.prog.funcNamed "warder/warderlaw03.TextsTimes" = some f) (hfn : Tryd.pinned.checked.prog.funcs[f]? = some fn) :
    false = Tryd.pinned.checked.prog.looks [] ∧ ∀ (j : Nat) t, fn.params[j]? = some t → Tryd.pinned.checked.prog.wantsStandIn t = false := by
  obtain rfl : f = 5 := Option.some.inj ((show Tryd.prog.funcNamed "warder/warderlaw03.TextsTimes" = some 5 by kernel_rfl).symm.trans hf) |>.symm
  obtain rfl : fn = Tryd.f5 := (Option.some.inj (Tryd.func5.symm.trans hfn)).symm
  refine ⟨by kernel_rfl, fun j t ht => ?_⟩
  rw [Tryd.params5] at ht
  match j, ht with
    | 0, ht => obtain rfl : t = 2 := (Option.some.inj ht).symm; exact (show Tryd.prog.wantsStandIn 2 = false by kernel_rfl)
    | 1, ht => obtain rfl : t = 5 := (Option.some.inj ht).symm; exact (show Tryd.prog.wantsStandIn 5 = false by kernel_rfl)
    | 2, ht => obtain rfl : t = 22 := (Option.some.inj ht).symm; exact (show Tryd.prog.wantsStandIn 22 = false by kernel_rfl)
    | j + 3, ht => simp at ht

theorem proved : Rows.TextsTimesCardSaid :=
  Claim7.holds_tied_plain_at .later [] _ _ _ _ over (fun _ h => by cases h) (by kernel_rfl) (fun _ h => by cases h) textsTimes_row_tie rfl ⟨rfl, rfl⟩ (by kernel_rfl) rfl plain (by kernel_rfl)
#print axioms proved
end Go.Proofs.YtajiolcdjjkedaaDoor.textsTimes
