/- The law NamesGet of warderlaw09 answers true for every node, and leaves its argument as it was; no condition but that the library's two tables are as its text lays them. -/
import Derived.Test.YthcancakkkjpaaaGreatDoorCards
import Derived.Test.YthcancakkkjpaaaGreatDoorTie
import Derived.WalkKit
import Derived.ProofKit
import Derived.OpenShut
import Derived.ChangeOld
import Derived.Below
import Derived.SizedLaws
import Derived.Test.YthcancakkkjpaaaGreatDoorKb
import Derived.Test.YthcancakkkjpaaaGreatDoorXc
import Derived.Test.YthcancakkkjpaaaGreatDoorSb
import Derived.Test.YthcancakkkjpaaaGreatDoorSh
namespace Go.Proofs.YthcancakkkjpaaaGreatDoor.namesGet
open Go.ChangeShapes Go.WideShapes Go.ChangeAt Go.RowKit
set_option linter.unusedVariables false

theorem own : ownKnob Tryz.prog.godebug = none := by kernel_rfl
theorem laidOut : laidOutB Tryz.prog = true := by kernel_rfl

open Go.Proofs.YthcancakkkjpaaaGreatDoor.tlvc Go.Proofs.YthcancakkkjpaaaGreatDoor.tlvd Go.Proofs.YthcancakkkjpaaaGreatDoor.ndc Go.Proofs.YthcancakkkjpaaaGreatDoor.txc Go.Proofs.YthcancakkkjpaaaGreatDoor.nmc

set_option maxRecDepth 100000 in
set_option maxHeartbeats 16000000 in
theorem walk (n0 : ndc.Nd) (c0_0 c0_1 c0_2 : Value) (w : World) (w0 : ndc.NdC (fun _ => True) w n0 c0_0 c0_1 c0_2) (hT : txc.Tabs w) :
    Calls Tryz.prog 3 #[.agg #[c0_0, c0_1, c0_2]] w fun e w' => e = .returned (.bool true) ∧ Below w.heap.size w w' := by
  obtain ⟨tk, Ak, lak, cak, Kk, lkk, ckk, ec0, ec1, ec2⟩ := w0.shape
  subst ec0 ec1 ec2
  obtain ⟨W0, hW0⟩ : ∃ x, w.alloc (.cells #[.int .u8 tk, .slice Ak lak cak, .slice Kk lkk ckk] 25) = x := ⟨_, rfl⟩
  have hb0 : Below w.heap.size w W0 := by rw [← hW0]; exact below_new _ _
  have q0 : W0.heap[w.heap.size]? = some (.cells #[.int .u8 tk, .slice Ak lak cak, .slice Kk lkk ckk] 25) := by rw [← hW0]; exact heap_new_ _ _
  have hbw := fun W (hW : Below W0.heap.size W0 W) => below_then hb0 hW (Nat.le_refl _)
  have hTT : ∀ W, Below W0.heap.size W0 W → Tabs W := fun W hW => hT.below (hbw W hW)
  have hnd : ∀ W, Below W0.heap.size W0 W → NdC (fun _ => True) W n0 (.int .u8 tk) (.slice Ak lak cak) (.slice Kk lkk ckk) := fun W hW => NdC.below (hbw W hW) _ _ _ _ w0
  have hkx := fun W (hW : Below W0.heap.size W0 W) => box_nd hW q0
  have HKX := Lib.hid hkx
  have HHD := Lib.hid (head_any W0 (hT.below hb0))
  obtain ⟨P, hP⟩ : ∃ x, partsF n0 5000 = x := ⟨_, rfl⟩
  have hpar := fun (W : World) (hW : Below W0.heap.size W0 W) => parts_of _ n0 (Nat.le_refl _) (.agg #[.int .u8 tk, .slice Ak lak cak, .slice Kk lkk ckk]) 5000 W ⟨_, _, _, rfl, hnd W hW⟩ (by omega) (by omega)
  have hkids : ¬ 5000 < P → _ := fun h => parts_kids (n := n0) (by rw [hP]; omega)
  rw [hP] at hpar
  have HPAR := Lib.hid hpar
  have HBW := Lib.hid hbw
  have hgn := getN_rg (fit2_of w0)
  have hgp := getP_rg (fit2_of w0)
  have hgK := fun W (hW : Below W0.heap.size W0 W) => get_any _ n0 _ _ _ W (hnd W hW) (hTT W hW)
  have hgQ := fun W (hW : Below W0.heap.size W0 W) => getPrinc_any _ n0 _ _ _ W (hnd W hW) (hTT W hW)
  have hrK := fun W (hW : Below W0.heap.size W0 W) (hp : ¬ 5000 < P) => rget_any _ n0 _ _ _ W (hnd W hW) (hkids hp).1 (hTT W hW)
  have hrQ := fun W (hW : Below W0.heap.size W0 W) (hp : ¬ 5000 < P) => rgetPrinc_any _ n0 _ _ _ W (hnd W hW) (kid1_len (hkids hp).2) (hTT W hW)
  rw [← hgn] at hrK
  rw [← hgp] at hrQ
  obtain ⟨gn, hgn_⟩ : ∃ x, getN n0 = x := ⟨_, rfl⟩
  obtain ⟨gp, hgp_⟩ : ∃ x, getP n0 = x := ⟨_, rfl⟩
  rw [hgn_] at hgK hrK
  rw [hgp_] at hgQ hrQ
  have HGK := Lib.hid hgK
  have HGQ := Lib.hid hgQ
  have HRK := Lib.hid hrK
  have HRQ := Lib.hid hrQ
  obtain ⟨fn, hfn⟩ : ∃ x, codeL gn = x := ⟨_, rfl⟩
  obtain ⟨fp, hfp⟩ : ∃ x, codeP gp = x := ⟨_, rfl⟩
  have HFN := Lib.hid hfn
  have HFP := Lib.hid hfp
  clear hfn hfp hgn_ hgp_ hgn hgp hgK hgQ hrK hrQ hpar hP hkids hbw hkx hnd hTT q0 hb0 hT w0
  go_enter Tryz.func3, Tryz.ntmps3
  go_wp2_with fail
  refine HHD.out.mono ?_
  rintro e wa ⟨rfl, hba⟩
  obtain ⟨ka0, ka1, ka2⟩ := HKX.out _ hba
  have HC := Lib.hid (HPAR.out wa hba)
  have H1 := Lib.hid hba
  clear hba HHD HPAR hW0
  go_wp2_with fail
  refine HC.out.mono ?_
  rintro e wb ⟨rfl, hbb⟩
  have H2 := Lib.hid (below_then H1.out hbb (Nat.le_refl _))
  clear HC hbb H1 ka0 ka1 ka2
  by_cases hp : 5000 < P
  · go_wp2
    go_ret
    exact ⟨rfl, HBW.out _ H2.out⟩
  · have HPP := Lib.hid hp
    obtain ⟨ka0, ka1, ka2⟩ := HKX.out _ H2.out
    have HC := Lib.hid (HGK.out _ H2.out)
    clear HGK
    go_wp2_with fail
    refine HC.out.mono ?_
    rintro e wc hpost
    obtain ⟨hbc, A1, l1, c1, er1, rfl, her1, hl1, hc1, hm1, hL1⟩ := hpost.any
    rw [HFN.out] at her1
    obtain rfl : fn = er1 := her1.symm
    have H3 := Lib.hid (below_then H2.out hbc (Nat.le_refl _))
    have HL1 := Lib.hid (And.intro hl1 (And.intro hc1 (And.intro hm1 hL1)))
    have HC2 := Lib.hid (HRK.out _ H3.out HPP.out)
    clear ka0 ka1 ka2 hp
    obtain ⟨ka0, ka1, ka2⟩ := HKX.out _ H3.out
    clear HC hpost hbc hl1 hc1 hm1 hL1 H2 HRK her1
    go_wp2_with fail
    refine HC2.out.mono ?_
    rintro e wd hpost
    obtain ⟨hbd, A2, l2, c2, er2, rfl, her2, hl2, hc2, hm2, hL2⟩ := hpost.any
    rw [HFN.out] at her2
    obtain rfl : fn = er2 := her2.symm
    obtain rfl : l1 = l2 := HL1.out.1.symm.trans hl2
    have H4 := Lib.hid (below_then H3.out hbd (Nat.le_refl _))
    have HL2 := Lib.hid (And.intro (HL1.out.2.2.2.below hbd) (And.intro hc2 (And.intro hm2 hL2)))
    have HC := Lib.hid (HGQ.out _ H4.out)
    clear ka0 ka1 ka2
    obtain ⟨ka0, ka1, ka2⟩ := HKX.out _ H4.out
    clear HC2 hpost hbd hl2 hc2 hm2 hL2 H3 HGQ her2
    go_wp2_with fail
    refine HC.out.mono ?_
    rintro e we hpost
    obtain ⟨hbe, s3, A3, l3, c3, er3, rfl, her3, hp3⟩ := hpost.any
    rw [HFP.out] at her3
    obtain rfl : fp = er3 := her3.symm
    have hb5 := below_then hbe (below_new we (.cells #[.string s3, .slice A3 l3 c3] 35)) (Nat.le_refl _)
    have H5 := Lib.hid (below_then H4.out hb5 (Nat.le_refl _))
    have q3 := heap_new_ we (.cells #[.string s3, .slice A3 l3 c3] 35)
    have HL3 := Lib.hid (And.intro (HL2.out.1.below hb5) (And.intro (HL2.out.2.2.2.below hb5) (And.intro q3 (hp3.below (below_new we (.cells #[.string s3, .slice A3 l3 c3] 35))))))
    have HC2 := Lib.hid (HRQ.out _ H5.out HPP.out)
    clear ka0 ka1 ka2
    obtain ⟨ka0, ka1, ka2⟩ := HKX.out _ H5.out
    clear HC hpost hbe hb5 q3 hp3 H4 HRQ her3
    go_wp2_with fail
    refine HC2.out.mono ?_
    rintro e wf hpost
    obtain ⟨hbf, s4, A4, l4, c4, er4, rfl, her4, hp4⟩ := hpost.any
    rw [HFP.out] at her4
    obtain rfl : fp = er4 := her4.symm
    have hb6 := below_then hbf (below_new wf (.cells #[.string s4, .slice A4 l4 c4] 35)) (Nat.le_refl _)
    have q4 := heap_new_ wf (.cells #[.string s4, .slice A4 l4 c4] 35)
    have q3 := (hb6.block _ (Array.getElem?_eq_some_iff.1 HL3.out.2.2.1).1).trans HL3.out.2.2.1
    have hs1 := ralike_self _ _ _ _ l1 c1 c2 _ _ HL1.out.1 (HL3.out.1.below hb6) (HL3.out.2.1.below hb6) HL1.out.2.1 HL1.out.2.2.1 HL2.out.2.1 HL2.out.2.2.1
    have hs2 := fun W (hW : Below (wf.alloc (.cells #[.string s4, .slice A4 l4 c4] 35)).heap.size (wf.alloc (.cells #[.string s4, .slice A4 l4 c4] 35)) W) => ralikeP_self _ _ _ _ _ _ _ W ((HL3.out.2.2.2.below hb6).below hW) ((hp4.below (below_new wf (.cells #[.string s4, .slice A4 l4 c4] 35))).below hW)
    have hbxs := fun W (hW : Below (wf.alloc (.cells #[.string s4, .slice A4 l4 c4] 35)).heap.size (wf.alloc (.cells #[.string s4, .slice A4 l4 c4] 35)) W) => And.intro (And.intro (cell_on hW ((Lib.cell_of_heap q3 0).trans rfl)) (cell_on hW ((Lib.cell_of_heap q3 1).trans rfl))) (And.intro (cell_on hW ((Lib.cell_of_heap q4 0).trans rfl)) (cell_on hW ((Lib.cell_of_heap q4 1).trans rfl)))
    have HS1 := Lib.hid hs1
    have HS2 := Lib.hid hs2
    have HBX := Lib.hid hbxs
    have HF := Lib.hid (HBW.out _ (below_then H5.out hb6 (Nat.le_refl _)))
    clear HC2 hpost hbf hb6 q3 q4 hp4 hs1 hs2 hbxs H5 HL1 HL2 HL3 her4 ka0 ka1 ka2 HKX HBW HFN HFP HPP
    go_wp2_with fail
    refine HS1.out.mono ?_
    rintro e wg ⟨rfl, hbg⟩
    obtain ⟨⟨u0, u1⟩, v0, v1⟩ := HBX.out wg hbg
    have HS3 := Lib.hid (HS2.out wg hbg)
    have HF2 := Lib.hid (below_then HF.out hbg (Nat.le_refl _))
    clear hbg HS1 HS2 HBX HF
    go_wp2_with fail
    refine HS3.out.mono ?_
    rintro e wh ⟨rfl, hbh⟩
    have HF3 := Lib.hid (below_then HF2.out hbh (Nat.le_refl _))
    clear hbh HS3 HF2 u0 u1 v0 v1
    go_wp2
    go_ret
    exact ⟨rfl, HF3.out⟩

theorem reads (os : Os) {H : Type} (enc : TypeId × Value → H) : ∃ places, DataW.whole enc Tryz.prog ((txc.laidWorld os).forCall (fun _ _ => 0) ⟨#[], #[.agg #[.int .u8 0, .slice none 0 0, .slice none 0 0]], []⟩).memory Tryz.f3.params.toList Rows.namesGetSpec.vars false (#[.agg #[.int .u8 0, .slice none 0 0, .slice none 0 0]] : Array Value).toList 8 = some ([.agg [.lit (.int .u8 0), .nil, .nil]], [], places) :=
  ⟨[], by kernel_rfl⟩
set_option maxRecDepth 100000 in
theorem lifted (os : Os) (started : os.Started) (H : Type) (enc : TypeId × Value → H) (F : Stop.Interp) :
    ReturnsInHanded {} Tryz.checked os 3 .any ((OpenSpec.ofChange Rows.namesGetSpec).preRow enc Tryz.prog Tryz.f3 Rows.namesGetRow.domain false Rows.namesGetRow.laid) (((OpenSpec.ofChange Rows.namesGetSpec).at F).post enc Tryz.prog Tryz.f3 false true false false) := by
  obtain ⟨places, hx⟩ := reads os enc
  refine returnsInHanded_of_row (C := Tryz.checked) (s := (OpenSpec.ofChange Rows.namesGetSpec)) own started (by kernel_rfl) Tryz.func3
    (witness_row_at (enc := enc) (C := Tryz.checked) false (txc.laidWorld os) #[.agg #[.int .u8 0, .slice none 0 0, .slice none 0 0]] rfl (by kernel_rfl) (by kernel_rfl) (by kernel_rfl)
      (OpenSpec.preRow_of_cond 8 hx (by kernel_rfl) (fun k hk => by cases hk) (by kernel_rfl) (txc.laid_met os _))) ?_
  intro W base args ds gs before hval0 hW hcnd hcond hsz0 hL _ _
  have hval : ∀ (j : Nat) t v, Tryz.f3.params[j]? = some t → args[j]? = some v → Value.okWide Tryz.prog W .any base t v := hval0
  have hW' := hW
  obtain ⟨p, q, hA0, hV, rfl, hfz, hnd⟩ := hW
  have hA : DataW.TrodAll enc Tryz.prog W 0 (fun _ => true) true Tryz.f3.params.toList args.toList ds p := hA0
  have hsz : (DataW.weightsEach Tryz.prog (Tryz.f3.params.toList ++ (OpenSpec.ofChange Rows.namesGetSpec).bare.plain.varTypes Tryz.prog) (ds ++ gs)).all (· ≤ reachBytes) = true := hsz0
  rw [Tryz.params3] at hA hval hsz
  obtain ⟨v0, vs0, d0, ds0, p0, q0, hargs, rfl, rfl, h0, r_0⟩ := trodAll_cons hA
  obtain ⟨rfl, rfl, rfl⟩ := trodAll_nil r_0
  obtain rfl : args = #[v0] := by cases args; simp_all
  obtain ⟨rfl, rfl⟩ := trodVars_none hV
  have k0 := h0
  have lt0 : ∀ x ∈ p0, x.block < W.heap.size := by obtain ⟨m, hm⟩ := k0; exact DataW.trod_lt m _ _ _ hm
  obtain ⟨n0, c0_0, c0_1, c0_2, rfl, w0⟩ := ndc.open_nd ({ U := _, f0 := _, f1 := _, f2 := _, hT := Tryz.underlying25, hone := by kernel_rfl, hC := by kernel_rfl, e0 := Tryz.underlying5, e1 := Tryz.underlying22, eU := Tryz.underlying5, cU := by kernel_rfl, e2 := Tryz.underlying23 }) (hval 0 25 v0 rfl rfl) h0
  clear hA0 hval0
  have hT : txc.Tabs W := txc.tabs_of hL
  refine (walk n0 c0_0 c0_1 c0_2 W w0 hT).mono fun e W' ⟨he, bel⟩ => ?_
  subst he
  exact ⟨_, rfl, _, _, _, [], _, [], hW', trodAll_mk1 (shut_bool Tryz.underlying4 _), (trodAll_cons_mk (Below.trod laidOut (by kernel_rfl) (of_decide_eq_true (by kernel_rfl)) k0 bel lt0) trodAll_mk0), rfl, bel.frame _, fun h => by cases h⟩

theorem over : Rows.namesGetRow.holds Tryz.pinned (OpenSpec.ofChange Rows.namesGetSpec) :=
  OpenClaim.holds_of_cond 3 Tryz.f3 rfl rfl rfl rfl rfl rfl rfl ⟨rfl, rfl, rfl, rfl, rfl⟩ rfl rfl rfl rfl rfl (by kernel_rfl) Tryz.func3 (by kernel_rfl)
    (of_decide_eq_true (by kernel_rfl)) (by unfold Func.isWrapper; first | (rw [if_pos (by decide +kernel)]; kernel_rfl) | (rw [if_neg (by decide +kernel)]; exact ⟨rfl, rfl⟩))
    (fun os started H enc _ F => by rw [OpenClaim.pre_eq_preRow]; exact lifted os started H enc F)

theorem plain (f : FuncId) (fn : Func) (hf : Tryz.pinned.checked.prog.funcNamed "warder/warderlaw09.NamesGet" = some f) (hfn : Tryz.pinned.checked.prog.funcs[f]? = some fn) :
    true = Tryz.pinned.checked.prog.looks [] ∧ ∀ (j : Nat) t, fn.params[j]? = some t → Tryz.pinned.checked.prog.wantsStandIn t = false := by
  obtain rfl : f = 3 := Option.some.inj ((show Tryz.prog.funcNamed "warder/warderlaw09.NamesGet" = some 3 by kernel_rfl).symm.trans hf) |>.symm
  obtain rfl : fn = Tryz.f3 := (Option.some.inj (Tryz.func3.symm.trans hfn)).symm
  refine ⟨by kernel_rfl, fun j t ht => ?_⟩
  rw [Tryz.params3] at ht
  match j, ht with
    | 0, ht => obtain rfl : t = 25 := (Option.some.inj ht).symm; exact (show Tryz.prog.wantsStandIn 25 = false by kernel_rfl)
    | j + 1, ht => simp at ht

theorem proved : Rows.NamesGetCardSaid :=
  Claim7.holds_tied_plain_at .later [] _ _ _ _ over (fun _ h => by cases h) (by kernel_rfl) (fun _ h => by cases h) namesGet_row_tie rfl ⟨rfl, rfl⟩ (by kernel_rfl) rfl plain (by kernel_rfl)
#print axioms proved
end Go.Proofs.YthcancakkkjpaaaGreatDoor.namesGet
