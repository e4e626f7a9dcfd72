/- The law NodesPrints of warderlaw04 answers true for every node, and leaves its argument as it was; no condition but that the library's two tables are as its text lays them. -/
import Derived.Test.YtaafgohaikhekaaDoorCards
import Derived.Test.YtaafgohaikhekaaDoorTie
import Derived.WalkKit
import Derived.ProofKit
import Derived.OpenShut
import Derived.ChangeOld
import Derived.Below
import Derived.SizedLaws
import Derived.Test.YtaafgohaikhekaaDoorKb
import Derived.Test.YtaafgohaikhekaaDoorXc
import Derived.Test.YtaafgohaikhekaaDoorNdPe
namespace Go.Proofs.YtaafgohaikhekaaDoor.nodesPrints
open Go.ChangeShapes Go.WideShapes Go.ChangeAt Go.RowKit
set_option linter.unusedVariables false

theorem own : ownKnob Tryd.prog.godebug = none := by kernel_rfl
theorem laidOut : laidOutB Tryd.prog = true := by kernel_rfl

open Go.Proofs.YtaafgohaikhekaaDoor.tlvc Go.Proofs.YtaafgohaikhekaaDoor.tlvd Go.Proofs.YtaafgohaikhekaaDoor.txc Go.Proofs.YtaafgohaikhekaaDoor.ndc

set_option maxRecDepth 100000 in
set_option maxHeartbeats 16000000 in
theorem walk (n0 : ndc.Nd) (c0_0 c0_1 c0_2 : Value) (w : World) (w0 : ndc.NdC (fun _ => True) w n0 c0_0 c0_1 c0_2) (hT : txc.Tabs w) :
    Calls Tryd.prog 3 #[.agg #[c0_0, c0_1, c0_2]] w fun e w' => e = .returned (.bool true) ∧ Below w.heap.size w w' := by
  obtain ⟨tk, Ak, lak, cak, Kk, lkk, ckk, ec0, ec1, ec2⟩ := w0.shape
  subst ec0 ec1 ec2
  obtain ⟨W0, hW0⟩ : ∃ x, w.alloc (.cells #[.int .u8 tk, .slice Ak lak cak, .slice Kk lkk ckk] 25) = x := ⟨_, rfl⟩
  have hz0 : w.heap.size < W0.heap.size := by rw [← hW0]; simp
  have hbw : Below w.heap.size w W0 := by rw [← hW0]; exact below_new _ _
  have q0 : W0.heap[w.heap.size]? = some (.cells #[.int .u8 tk, .slice Ak lak cak, .slice Kk lkk ckk] 25) := by rw [← hW0]; exact box_new _ _ _ _ _
  have hnd : ∀ W, Below W0.heap.size W0 W → NdV (fun _ => True) W n0 (.agg #[.int .u8 tk, .slice Ak lak cak, .slice Kk lkk ckk]) := fun W hW => ⟨_, _, _, rfl, NdC.below (hbw.trans (hW.mono hbw.size)) _ _ _ _ w0⟩
  have hTT : ∀ W, Below W0.heap.size W0 W → Tabs W := fun W hW => hT.below (hbw.trans (hW.mono hbw.size))
  have hbx : ∀ W, Below W0.heap.size W0 W → W.cell? ⟨w.heap.size, 0, none⟩ = some (.int .u8 tk) ∧ W.cell? ⟨w.heap.size, 1, none⟩ = some (.slice Ak lak cak) ∧ W.cell? ⟨w.heap.size, 2, none⟩ = some (.slice Kk lkk ckk) := fun W hW => box_cells hW q0 hz0
  have HN := Lib.hid hnd
  have HT := Lib.hid hTT
  have HX := Lib.hid hbx
  have HBW := Lib.hid hbw
  have htrue := partsF_true (szN n0) n0 (Nat.le_refl _) 20000 (by omega)
  obtain ⟨P, hP⟩ : ∃ p, partsF n0 20000 = p := ⟨_, rfl⟩
  rw [hP] at htrue
  have hpar := fun (W : World) (hW : Below W0.heap.size W0 W) => parts_of _ n0 (Nat.le_refl _) (.agg #[.int .u8 tk, .slice Ak lak cak, .slice Kk lkk ckk]) 20000 W (hnd W hW) (by omega) (by omega)
  rw [hP] at hpar
  have HPAR := Lib.hid hpar
  have HTRUE := Lib.hid htrue
  obtain ⟨j0, j1, j2⟩ := hbx _ (Below.refl _ _)
  clear hnd hTT hbx q0 hbw w0 hT hz0 hP hpar htrue
  go_enter Tryd.func3, Tryd.ntmps3
  go_wp2_with fail
  refine (head_any _ (HT.out _ (Below.refl _ _))).mono ?_
  rintro e wa ⟨rfl, hba⟩
  obtain ⟨k0, k1, k2⟩ := HX.out _ hba
  clear j0 j1 j2 hW0
  go_wp2_with fail
  refine (HPAR.out _ hba).mono ?_
  rintro e wb ⟨rfl, hbb⟩
  have hB1 := below_then hba hbb (Nat.le_refl _)
  clear k0 k1 k2 hba hbb HPAR
  by_cases hp : 20000 < P
  · have hend := HBW.out.trans (hB1.mono HBW.out.size)
    clear hB1
    go_wp2
    go_ret
    exact ⟨rfl, hend⟩
  · have hsz : szN n0 ≤ 20000 := by have := HTRUE.out (by omega); omega
    obtain ⟨R, hR⟩ : ∃ r, writeF n0 0 = r := ⟨_, rfl⟩
    have hpr := fun (W : World) (hW : Below W0.heap.size W0 W) => print_any n0 _ _ W (HN.out W hW) (HT.out W hW)
    have hpd := fun (W : World) (hW : Below W0.heap.size W0 W) => refPrint_any n0 hsz _ _ W (HN.out W hW) (HT.out W hW)
    have hck := fun (W : World) (hW : Below W0.heap.size W0 W) => check_any n0 _ _ W (HN.out W hW) (HT.out W hW)
    rw [hR] at hpr hpd hck
    have HPR := Lib.hid hpr
    have HPD := Lib.hid hpd
    have HCK := Lib.hid hck
    obtain ⟨k0, k1, k2⟩ := HX.out _ hB1
    clear hpr hpd hck hR HTRUE
    go_wp2_with fail
    refine (HPR.out _ hB1).mono ?_
    rintro e wc ⟨hbc, hpost⟩
    have hB2 := below_then hB1 hbc (Nat.le_refl _)
    obtain ⟨l0, l1, l2⟩ := HX.out _ hB2
    clear k0 k1 k2 hB1
    cases R with
    | no er =>
      have hpost : e = .returned (.tuple #[.slice none 0 0, .int .i64 er]) := hpost
      subst hpost
      go_wp2_with fail
      refine (HPD.out _ hB2).mono ?_
      rintro e wd ⟨hbd, A2, c2, rfl⟩
      have hB3 := below_then hB2 hbd (Nat.le_refl _)
      obtain ⟨m0, m1, m2⟩ := HX.out _ hB3
      have hck := HCK.out _ hB3
      have HCK2 := Lib.hid hck
      have s1 := txc.str_now (Bys.nil_ wd none) 0
      have s2 := txc.str_now (Bys.nil_ wd A2) c2
      have ee : (er == er) = true := by simp
      obtain ⟨ST, hST⟩ : ∃ x, strOfNums [] = x := ⟨_, rfl⟩
      rw [hST] at s1 s2
      clear l0 l1 l2 hB2 hbc hbd hck hST
      go_wp2_with fail
      refine HCK2.out.mono ?_
      rintro e we ⟨rfl, hbe⟩
      have hend := HBW.out.trans ((below_then hB3 hbe (Nat.le_refl _)).mono HBW.out.size)
      have hew : errW (.no er) = er := rfl
      clear HCK2
      go_wp2
      go_ret
      exact ⟨rfl, hend⟩
    | ok b =>
      obtain ⟨A, c, rfl, hy1, _⟩ := hpost
      go_wp2_with fail
      refine (HPD.out _ hB2).mono ?_
      rintro e wd ⟨hbd, A2, c2, rfl, hy2, _⟩
      have hB3 := below_then hB2 hbd (Nat.le_refl _)
      obtain ⟨m0, m1, m2⟩ := HX.out _ hB3
      have hck := HCK.out _ hB3
      have HCK2 := Lib.hid hck
      have s1 := txc.str_now (hy1.below hbd) c
      have s2 := txc.str_now hy2 c2
      obtain ⟨ST, hST⟩ : ∃ x, strOfNums b = x := ⟨_, rfl⟩
      rw [hST] at s1 s2
      clear l0 l1 l2 hB2 hbc hbd hck hST hy1 hy2
      go_wp2_with fail
      refine HCK2.out.mono ?_
      rintro e we ⟨rfl, hbe⟩
      have hend := HBW.out.trans ((below_then hB3 hbe (Nat.le_refl _)).mono HBW.out.size)
      have hew : errW (.ok b) = 0 := rfl
      clear HCK2
      go_wp2
      go_ret
      exact ⟨rfl, hend⟩

theorem reads (os : Os) {H : Type} (enc : TypeId × Value → H) : ∃ places, DataW.whole enc Tryd.prog ((txc.laidWorld os).forCall (fun _ _ => 0) ⟨#[], #[.agg #[.int .u8 0, .slice none 0 0, .slice none 0 0]], []⟩).memory Tryd.f3.params.toList Rows.nodesPrintsSpec.vars false (#[.agg #[.int .u8 0, .slice none 0 0, .slice none 0 0]] : Array Value).toList 8 = some ([.agg [.lit (.int .u8 0), .nil, .nil]], [], places) :=
  ⟨[], by kernel_rfl⟩
set_option maxRecDepth 100000 in
theorem lifted (os : Os) (started : os.Started) (H : Type) (enc : TypeId × Value → H) (F : Stop.Interp) :
    ReturnsInHanded {} Tryd.checked os 3 .any ((OpenSpec.ofChange Rows.nodesPrintsSpec).preRow enc Tryd.prog Tryd.f3 Rows.nodesPrintsRow.domain false Rows.nodesPrintsRow.laid) (((OpenSpec.ofChange Rows.nodesPrintsSpec).at F).post enc Tryd.prog Tryd.f3 false true false false) := by
  obtain ⟨places, hx⟩ := reads os enc
  refine returnsInHanded_of_row (C := Tryd.checked) (s := (OpenSpec.ofChange Rows.nodesPrintsSpec)) own started (by kernel_rfl) Tryd.func3
    (witness_row_at (enc := enc) (C := Tryd.checked) false (txc.laidWorld os) #[.agg #[.int .u8 0, .slice none 0 0, .slice none 0 0]] rfl (by kernel_rfl) (by kernel_rfl) (by kernel_rfl)
      (OpenSpec.preRow_of_cond 8 hx (by kernel_rfl) (fun k hk => by cases hk) (by kernel_rfl) (txc.laid_met os _))) ?_
  intro W base args ds gs before hval0 hW hcnd hcond hsz0 hL _ _
  have hval : ∀ (j : Nat) t v, Tryd.f3.params[j]? = some t → args[j]? = some v → Value.okWide Tryd.prog W .any base t v := hval0
  have hW' := hW
  obtain ⟨p, q, hA0, hV, rfl, hfz, hnd⟩ := hW
  have hA : DataW.TrodAll enc Tryd.prog W 0 (fun _ => true) true Tryd.f3.params.toList args.toList ds p := hA0
  have hsz : (DataW.weightsEach Tryd.prog (Tryd.f3.params.toList ++ (OpenSpec.ofChange Rows.nodesPrintsSpec).bare.plain.varTypes Tryd.prog) (ds ++ gs)).all (· ≤ reachBytes) = true := hsz0
  rw [Tryd.params3] at hA hval hsz
  obtain ⟨v0, vs0, d0, ds0, p0, q0, hargs, rfl, rfl, h0, r_0⟩ := trodAll_cons hA
  obtain ⟨rfl, rfl, rfl⟩ := trodAll_nil r_0
  obtain rfl : args = #[v0] := by cases args; simp_all
  obtain ⟨rfl, rfl⟩ := trodVars_none hV
  have k0 := h0
  have lt0 : ∀ x ∈ p0, x.block < W.heap.size := by obtain ⟨m, hm⟩ := k0; exact DataW.trod_lt m _ _ _ hm
  obtain ⟨n0, c0_0, c0_1, c0_2, rfl, w0⟩ := ndc.open_nd ({ U := _, f0 := _, f1 := _, f2 := _, hT := Tryd.underlying25, hone := by kernel_rfl, hC := by kernel_rfl, e0 := Tryd.underlying5, e1 := Tryd.underlying22, eU := Tryd.underlying5, cU := by kernel_rfl, e2 := Tryd.underlying23 }) (hval 0 25 v0 rfl rfl) h0
  clear hA0 hval0
  have hT : txc.Tabs W := txc.tabs_of hL
  refine (walk n0 c0_0 c0_1 c0_2 W w0 hT).mono fun e W' ⟨he, bel⟩ => ?_
  subst he
  exact ⟨_, rfl, _, _, _, [], _, [], hW', trodAll_mk1 (shut_bool Tryd.underlying4 _), (trodAll_cons_mk (Below.trod laidOut (by kernel_rfl) (of_decide_eq_true (by kernel_rfl)) k0 bel lt0) trodAll_mk0), rfl, bel.frame _, fun h => by cases h⟩

theorem over : Rows.nodesPrintsRow.holds Tryd.pinned (OpenSpec.ofChange Rows.nodesPrintsSpec) :=
  OpenClaim.holds_of_cond 3 Tryd.f3 rfl rfl rfl rfl rfl rfl rfl ⟨rfl, rfl, rfl, rfl, rfl⟩ rfl rfl rfl rfl rfl (by kernel_rfl) Tryd.func3 (by kernel_rfl)
    (of_decide_eq_true (by kernel_rfl)) (by unfold Func.isWrapper; first | (rw [if_pos (by decide +kernel)]; kernel_rfl) | (rw [if_neg (by decide +kernel)]; exact ⟨rfl, rfl⟩))
    (fun os started H enc _ F => by rw [OpenClaim.pre_eq_preRow]; exact lifted os started H enc F)

theorem plain (f : FuncId) (fn : Func) (hf : Tryd.pinned.checked.prog.funcNamed "warder/warderlaw04.NodesPrints" = some f) (hfn : Tryd.pinned.checked.prog.funcs[f]? = some fn) :
    true = Tryd.pinned.checked.prog.looks [] ∧ ∀ (j : Nat) t, fn.params[j]? = some t → Tryd.pinned.checked.prog.wantsStandIn t = false := by
  obtain rfl : f = 3 := Option.some.inj ((show Tryd.prog.funcNamed "warder/warderlaw04.NodesPrints" = some 3 by kernel_rfl).symm.trans hf) |>.symm
  obtain rfl : fn = Tryd.f3 := (Option.some.inj (Tryd.func3.symm.trans hfn)).symm
  refine ⟨by kernel_rfl, fun j t ht => ?_⟩
  rw [Tryd.params3] at ht
  match j, ht with
    | 0, ht => obtain rfl : t = 25 := (Option.some.inj ht).symm; exact (show Tryd.prog.wantsStandIn 25 = false by kernel_rfl)
    | j + 1, ht => simp at ht

theorem proved : Rows.NodesPrintsCardSaid :=
  Claim7.holds_tied_plain_at .later [] _ _ _ _ over (fun _ h => by cases h) (by kernel_rfl) (fun _ h => by cases h) nodesPrints_row_tie rfl ⟨rfl, rfl⟩ (by kernel_rfl) rfl plain (by kernel_rfl)
#print axioms proved
end Go.Proofs.YtaafgohaikhekaaDoor.nodesPrints
