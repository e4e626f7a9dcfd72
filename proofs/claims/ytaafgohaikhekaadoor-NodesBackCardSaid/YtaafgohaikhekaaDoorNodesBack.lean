/- The law NodesBack of warderlaw04 answers true for every node and every bytes, and leaves its arguments as they were; no condition but that the library's two tables are as its text lays them. -/
import Derived.Test.YtaafgohaikhekaaDoorCards
import Derived.Test.YtaafgohaikhekaaDoorTie
import Derived.WalkKit
import Derived.ProofKit
import Derived.OpenShut
import Derived.ChangeOld
import Derived.Below
import Derived.SizedLaws
import Derived.Test.YtaafgohaikhekaaDoorKb
import Derived.Test.YtaafgohaikhekaaDoorXc
import Derived.Test.YtaafgohaikhekaaDoorNdQ
namespace Go.Proofs.YtaafgohaikhekaaDoor.nodesBack
open Go.ChangeShapes Go.WideShapes Go.ChangeAt Go.RowKit
set_option linter.unusedVariables false

theorem own : ownKnob Tryd.prog.godebug = none := by kernel_rfl
theorem laidOut : laidOutB Tryd.prog = true := by kernel_rfl

open Go.Proofs.YtaafgohaikhekaaDoor.tlvc Go.Proofs.YtaafgohaikhekaaDoor.tlvd Go.Proofs.YtaafgohaikhekaaDoor.txc Go.Proofs.YtaafgohaikhekaaDoor.ndc

set_option maxRecDepth 100000 in
set_option maxHeartbeats 16000000 in
theorem walk (n0 : ndc.Nd) (c0_0 c0_1 c0_2 : Value) (a1 : Option Addr) (len1 cap1 : Nat) (x1 : List Int) (w : World) (w0 : ndc.NdC (fun _ => True) w n0 c0_0 c0_1 c0_2) (w1 : tlvc.Bys w a1 len1 x1) (l1 : len1 ≤ cap1) (r1 : cap1 ≤ 140737488351232) (hT : txc.Tabs w) :
    Calls Tryd.prog 5 #[.agg #[c0_0, c0_1, c0_2], .slice a1 len1 cap1] w fun e w' => e = .returned (.bool true) ∧ Below w.heap.size w w' := by
  obtain ⟨tk, Ak, lak, cak, Kk, lkk, ckk, ec0, ec1, ec2⟩ := w0.shape
  subst ec0 ec1 ec2
  have hcm : cap1 ≤ maxLen := by unfold maxLen; omega
  obtain ⟨W0, hW0⟩ : ∃ x, w.alloc (.cells #[.int .u8 tk, .slice Ak lak cak, .slice Kk lkk ckk] 25) = x := ⟨_, rfl⟩
  have hz0 : W0.heap.size = w.heap.size + 1 := by rw [← hW0]; simp
  have hbw : Below w.heap.size w W0 := by rw [← hW0]; exact below_new _ _
  have q0 : W0.heap[w.heap.size]? = some (.cells #[.int .u8 tk, .slice Ak lak cak, .slice Kk lkk ckk] 25) := by rw [← hW0]; exact box_new _ _ _ _ _
  have hnd : ∀ W, Below W0.heap.size W0 W → NdC (fun _ => True) W n0 (.int .u8 tk) (.slice Ak lak cak) (.slice Kk lkk ckk) := fun W hW => NdC.below (hbw.trans (hW.mono hbw.size)) _ _ _ _ w0
  have hby : ∀ W, Below W0.heap.size W0 W → Bys W a1 len1 x1 := fun W hW => w1.below (hbw.trans (hW.mono hbw.size))
  have hTT : ∀ W, Below W0.heap.size W0 W → Tabs W := fun W hW => hT.below (hbw.trans (hW.mono hbw.size))
  have hbx : ∀ W, Below W0.heap.size W0 W → W.cell? ⟨w.heap.size, 0, none⟩ = some (.int .u8 tk) ∧ W.cell? ⟨w.heap.size, 1, none⟩ = some (.slice Ak lak cak) ∧ W.cell? ⟨w.heap.size, 2, none⟩ = some (.slice Kk lkk ckk) := fun W hW => box_cells hW q0 (by omega)
  have hfit := w1.2.1
  have HN := Lib.hid hnd
  have HB := Lib.hid hby
  have HT := Lib.hid hTT
  have HX := Lib.hid hbx
  have HBW := Lib.hid hbw
  clear hnd hby hTT hbx q0 hbw w0 w1 hT
  obtain ⟨P, hP⟩ : ∃ p, partsF n0 20000 = p := ⟨_, rfl⟩
  have HP := Lib.hid hP
  have hpar := fun (W : World) (hW : Below W0.heap.size W0 W) => parts_of _ n0 (Nat.le_refl _) (.agg #[.int .u8 tk, .slice Ak lak cak, .slice Kk lkk ckk]) 20000 W ⟨_, _, _, rfl, HN.out W hW⟩ (by omega) (by omega)
  rw [hP] at hpar
  have HPAR := Lib.hid hpar
  clear hP hpar
  go_enter Tryd.func5, Tryd.ntmps5
  go_wp2_with fail
  refine (head_any _ (HT.out _ (Below.refl _ _))).mono ?_
  rintro e wa ⟨rfl, hba⟩
  obtain ⟨ka0, ka1, ka2⟩ := HX.out _ hba
  go_wp2_with fail
  refine (HPAR.out _ hba).mono ?_
  rintro e wb ⟨rfl, hbb⟩
  have hB1 := below_then hba hbb (Nat.le_refl _)
  clear ka0 ka1 ka2 hba hbb
  by_cases hp : 20000 < P
  · go_wp2
    go_ret
    exact ⟨rfl, HBW.out.trans (hB1.mono HBW.out.size)⟩
  · obtain ⟨ka0, ka1, ka2⟩ := HX.out _ hB1
    have hpr := print_any n0 _ (.agg #[.int .u8 tk, .slice Ak lak cak, .slice Kk lkk ckk]) wb ⟨_, _, _, rfl, HN.out _ hB1⟩ (HT.out _ hB1)
    have hne0 := errW_ne (szN n0) n0 0
    have hrb : ∀ b, writeF n0 0 = .ok b → readAllF b = .ok n0 b.length := fun b h => read_all_back h
    obtain ⟨R, hR⟩ : ∃ r, writeF n0 0 = r := ⟨_, rfl⟩
    rw [hR] at hpr hrb
    have hne1 : ∀ e, R = .no e → e ≠ 0 := fun e he => hne0 e (Nat.le_refl _) (hR.trans he)
    have HPR := Lib.hid hpr
    have HRB := Lib.hid hrb
    have HNE := Lib.hid hne1
    clear hpr hne0 hrb hne1 hR
    go_wp2_with fail
    refine HPR.out.mono ?_
    rintro e wc ⟨hbc, hpost⟩
    have hB2 := below_then hB1 hbc (Nat.le_refl _)
    clear ka0 ka1 ka2 hB1 hbc HPR
    cases R with
    | no er =>
      have hpost : e = .returned (.tuple #[.slice none 0 0, .int .i64 er]) := hpost
      subst hpost
      have her := HNE.out er rfl
      have herb : (er == 0) = false := by simpa using her
      have hpb := parse_any a1 len1 cap1 x1 _ (HB.out _ hB2) l1 hcm (HT.out _ hB2)
      have hpl : ∀ a e, readAllF x1 = .bad a e → (0 ≤ a ∧ a ≤ x1.length) ∧ e ≠ 0 := fun a e h => read_all_place hfit h
      have hwb : ∀ n nx, readAllF x1 = .ok n nx → writeF n 0 = .ok x1 := fun n nx h => (write_all_back hfit h).1
      have hx1 : x1.length = len1 := (HB.out _ hB2).1
      obtain ⟨S, hS⟩ : ∃ r, readAllF x1 = r := ⟨_, rfl⟩
      rw [hS] at hpb hpl hwb
      have HPB := Lib.hid hpb
      have HPL := Lib.hid hpl
      have HWB := Lib.hid hwb
      clear hpb hpl hwb hS
      go_wp2_with fail
      refine HPB.out.mono ?_
      rintro e wf ⟨hbf, hpost⟩
      have hBf := below_then hB2 hbf (Nat.le_refl _)
      clear HPB hbf hB2
      cases S with
      | bad at_ er2 =>
        have hpost : e = .returned (.tuple #[.agg #[.int .u8 0, .slice none 0 0, .slice none 0 0], .int .i64 at_, .int .i64 er2]) := hpost
        subst hpost
        obtain ⟨⟨p1, p2⟩, her2⟩ := HPL.out at_ er2 rfl
        have herb2 : (er2 == 0) = false := by simpa using her2
        have p3 : at_ ≤ (len1 : Int) := by omega
        have hend := HBW.out.trans ((below_then hBf (below_new wf (.cells #[.int .u8 0, .slice none 0 0, .slice none 0 0] 25)) (Nat.le_refl _)).mono HBW.out.size)
        have HEND := Lib.hid hend
        clear hend hBf
        go_wp2
        go_ret
        exact ⟨rfl, HEND.out⟩
      | ok m nx =>
        obtain ⟨v, rfl, y0, y1, y2, rfl, hyn⟩ := hpost
        obtain ⟨tj, Aj, laj, caj, Kj, lkj, ckj, ej0, ej1, ej2⟩ := hyn.shape
        subst ej0 ej1 ej2
        have hBg := below_then hBf (below_new wf (.cells #[.int .u8 tj, .slice Aj laj caj, .slice Kj lkj ckj] 25)) (Nat.le_refl _)
        have hpr := print_any m _ (.agg #[.int .u8 tj, .slice Aj laj caj, .slice Kj lkj ckj]) _ ⟨_, _, _, rfl, NdC.below (below_new wf (.cells #[.int .u8 tj, .slice Aj laj caj, .slice Kj lkj ckj] 25)) _ _ _ _ hyn⟩ (HT.out _ hBg)
        rw [HWB.out m nx rfl] at hpr
        have HPR := Lib.hid hpr
        clear hpr hyn
        go_wp2_with fail
        refine HPR.out.mono ?_
        rintro e wh ⟨hbh, A2, c2, rfl, hbys2, hlc2, _⟩
        have hBh := below_then hBg hbh (Nat.le_refl _)
        clear HPR hbh hBg hBf
        have s1 := txc.str_now hbys2 c2
        have s2 := txc.str_now (HB.out _ hBh) cap1
        rw [hx1] at s1
        obtain ⟨ST, hST⟩ : ∃ x, strOfNums x1 = x := ⟨_, rfl⟩
        rw [hST] at s1 s2
        have hend := HBW.out.trans (hBh.mono HBW.out.size)
        have HEND := Lib.hid hend
        clear hend hBh hbys2 hST
        go_wp2
        go_ret
        exact ⟨rfl, HEND.out⟩
    | ok b =>
      obtain ⟨A, c, rfl, hbys, hlc, _⟩ := hpost
      have hpa := parse_any A b.length c b wc hbys hlc.1 hlc.2 (HT.out _ hB2)
      rw [HRB.out b rfl] at hpa
      have HPA := Lib.hid hpa
      clear hpa hbys hlc
      go_wp2_with fail
      refine HPA.out.mono ?_
      rintro e wd ⟨hbd, v, rfl, y0, y1, y2, rfl, hyn⟩
      have hB3 := below_then hB2 hbd (Nat.le_refl _)
      obtain ⟨tj, Aj, laj, caj, Kj, lkj, ckj, ej0, ej1, ej2⟩ := hyn.shape
      subst ej0 ej1 ej2
      clear HPA hbd hB2
      obtain ⟨ka0, ka1, ka2⟩ := HX.out _ hB3
      have hB4 := below_then hB3 (below_new wd (.cells #[.int .u8 tj, .slice Aj laj caj, .slice Kj lkj ckj] 25)) (Nat.le_refl _)
      have hsm := same_of (C1 := fun _ => True) (C2 := fun g => wc.heap.size ≤ g) (szN n0) n0 n0 (Nat.le_refl _) (.agg #[.int .u8 tk, .slice Ak lak cak, .slice Kk lkk ckk]) (.agg #[.int .u8 tj, .slice Aj laj caj, .slice Kj lkj ckj]) (wd.alloc (.cells #[.int .u8 tj, .slice Aj laj caj, .slice Kj lkj ckj] 25)) ⟨_, _, _, rfl, HN.out _ hB4⟩ ⟨_, _, _, rfl, NdC.below (below_new _ _) _ _ _ _ hyn⟩
      rw [sameN_refl] at hsm
      have HSM := Lib.hid hsm
      have lw : w.heap.size < wd.heap.size := by have := hB3.size; omega
      clear hsm hyn
      go_wp2_with fail
      refine HSM.out.mono ?_
      rintro e we ⟨rfl, hbe⟩
      have hB5 := below_then hB4 hbe (Nat.le_refl _)
      clear HSM hbe hB4 hB3 ka0 ka1 ka2 lw
      have hpb := parse_any a1 len1 cap1 x1 _ (HB.out _ hB5) l1 hcm (HT.out _ hB5)
      have hpl : ∀ a e, readAllF x1 = .bad a e → (0 ≤ a ∧ a ≤ x1.length) ∧ e ≠ 0 := fun a e h => read_all_place hfit h
      have hwb : ∀ n nx, readAllF x1 = .ok n nx → writeF n 0 = .ok x1 := fun n nx h => (write_all_back hfit h).1
      have hx1 : x1.length = len1 := (HB.out _ hB5).1
      obtain ⟨S, hS⟩ : ∃ r, readAllF x1 = r := ⟨_, rfl⟩
      rw [hS] at hpb hpl hwb
      have HPB := Lib.hid hpb
      have HPL := Lib.hid hpl
      have HWB := Lib.hid hwb
      clear hpb hpl hwb hS
      go_wp2_with fail
      refine HPB.out.mono ?_
      rintro e wf ⟨hbf, hpost⟩
      have hBf := below_then hB5 hbf (Nat.le_refl _)
      clear HPB hbf hB5
      cases S with
      | bad at_ er2 =>
        have hpost : e = .returned (.tuple #[.agg #[.int .u8 0, .slice none 0 0, .slice none 0 0], .int .i64 at_, .int .i64 er2]) := hpost
        subst hpost
        obtain ⟨⟨p1, p2⟩, her2⟩ := HPL.out at_ er2 rfl
        have herb2 : (er2 == 0) = false := by simpa using her2
        have p3 : at_ ≤ (len1 : Int) := by omega
        have hend := HBW.out.trans ((below_then hBf (below_new wf (.cells #[.int .u8 0, .slice none 0 0, .slice none 0 0] 25)) (Nat.le_refl _)).mono HBW.out.size)
        have HEND := Lib.hid hend
        clear hend hBf
        go_wp2
        go_ret
        exact ⟨rfl, HEND.out⟩
      | ok m nx =>
        obtain ⟨v, rfl, y0, y1, y2, rfl, hyn⟩ := hpost
        obtain ⟨tj, Aj, laj, caj, Kj, lkj, ckj, ej0, ej1, ej2⟩ := hyn.shape
        subst ej0 ej1 ej2
        have hBg := below_then hBf (below_new wf (.cells #[.int .u8 tj, .slice Aj laj caj, .slice Kj lkj ckj] 25)) (Nat.le_refl _)
        have hpr := print_any m _ (.agg #[.int .u8 tj, .slice Aj laj caj, .slice Kj lkj ckj]) _ ⟨_, _, _, rfl, NdC.below (below_new wf (.cells #[.int .u8 tj, .slice Aj laj caj, .slice Kj lkj ckj] 25)) _ _ _ _ hyn⟩ (HT.out _ hBg)
        rw [HWB.out m nx rfl] at hpr
        have HPR := Lib.hid hpr
        clear hpr hyn
        go_wp2_with fail
        refine HPR.out.mono ?_
        rintro e wh ⟨hbh, A2, c2, rfl, hbys2, hlc2, _⟩
        have hBh := below_then hBg hbh (Nat.le_refl _)
        clear HPR hbh hBg hBf
        have s1 := txc.str_now hbys2 c2
        have s2 := txc.str_now (HB.out _ hBh) cap1
        rw [hx1] at s1
        obtain ⟨ST, hST⟩ : ∃ x, strOfNums x1 = x := ⟨_, rfl⟩
        rw [hST] at s1 s2
        have hend := HBW.out.trans (hBh.mono HBW.out.size)
        have HEND := Lib.hid hend
        clear hend hBh hbys2 hST
        go_wp2
        go_ret
        exact ⟨rfl, HEND.out⟩

theorem reads (os : Os) {H : Type} (enc : TypeId × Value → H) : ∃ places, DataW.whole enc Tryd.prog ((txc.laidWorld os).forCall (fun _ _ => 0) ⟨#[], #[.agg #[.int .u8 0, .slice none 0 0, .slice none 0 0], .slice none 0 0], []⟩).memory Tryd.f5.params.toList Rows.nodesBackSpec.vars false (#[.agg #[.int .u8 0, .slice none 0 0, .slice none 0 0], .slice none 0 0] : Array Value).toList 8 = some ([.agg [.lit (.int .u8 0), .nil, .nil], .nil], [], places) :=
  ⟨[], by kernel_rfl⟩
set_option maxRecDepth 100000 in
theorem lifted (os : Os) (started : os.Started) (H : Type) (enc : TypeId × Value → H) (F : Stop.Interp) :
    ReturnsInHanded {} Tryd.checked os 5 .any ((OpenSpec.ofChange Rows.nodesBackSpec).preRow enc Tryd.prog Tryd.f5 Rows.nodesBackRow.domain false Rows.nodesBackRow.laid) (((OpenSpec.ofChange Rows.nodesBackSpec).at F).post enc Tryd.prog Tryd.f5 false true false false) := by
  obtain ⟨places, hx⟩ := reads os enc
  refine returnsInHanded_of_row (C := Tryd.checked) (s := (OpenSpec.ofChange Rows.nodesBackSpec)) own started (by kernel_rfl) Tryd.func5
    (witness_row_at (enc := enc) (C := Tryd.checked) false (txc.laidWorld os) #[.agg #[.int .u8 0, .slice none 0 0, .slice none 0 0], .slice none 0 0] rfl (by kernel_rfl) (by kernel_rfl) (by kernel_rfl)
      (OpenSpec.preRow_of_cond 8 hx (by kernel_rfl) (fun k hk => by cases hk) (by kernel_rfl) (txc.laid_met os _))) ?_
  intro W base args ds gs before hval0 hW hcnd hcond hsz0 hL _ _
  have hval : ∀ (j : Nat) t v, Tryd.f5.params[j]? = some t → args[j]? = some v → Value.okWide Tryd.prog W .any base t v := hval0
  have hW' := hW
  obtain ⟨p, q, hA0, hV, rfl, hfz, hnd⟩ := hW
  have hA : DataW.TrodAll enc Tryd.prog W 0 (fun _ => true) true Tryd.f5.params.toList args.toList ds p := hA0
  have hsz : (DataW.weightsEach Tryd.prog (Tryd.f5.params.toList ++ (OpenSpec.ofChange Rows.nodesBackSpec).bare.plain.varTypes Tryd.prog) (ds ++ gs)).all (· ≤ reachBytes) = true := hsz0
  rw [Tryd.params5] at hA hval hsz
  obtain ⟨v0, vs0, d0, ds0, p0, q0, hargs, rfl, rfl, h0, r_0⟩ := trodAll_cons hA
  obtain ⟨v1, vs1, d1, ds1, p1, q1, rfl, rfl, rfl, h1, r_1⟩ := trodAll_cons r_0
  obtain ⟨rfl, rfl, rfl⟩ := trodAll_nil r_1
  obtain rfl : args = #[v0, v1] := by cases args; simp_all
  obtain ⟨rfl, rfl⟩ := trodVars_none hV
  have k0 := h0
  have lt0 : ∀ x ∈ p0, x.block < W.heap.size := by obtain ⟨m, hm⟩ := k0; exact DataW.trod_lt m _ _ _ hm
  obtain ⟨n0, c0_0, c0_1, c0_2, rfl, w0⟩ := ndc.open_nd ({ U := _, f0 := _, f1 := _, f2 := _, hT := Tryd.underlying25, hone := by kernel_rfl, hC := by kernel_rfl, e0 := Tryd.underlying5, e1 := Tryd.underlying22, eU := Tryd.underlying5, cU := by kernel_rfl, e2 := Tryd.underlying23 }) (hval 0 25 v0 rfl rfl) h0
  obtain ⟨a1, len1, cap1, rfl⟩ := okWide_slice Tryd.underlying22 (hval 1 22 v1 rfl rfl)
  have k1 := h1
  have lt1 : ∀ x ∈ p1, x.block < W.heap.size := by obtain ⟨m, hm⟩ := k1; exact DataW.trod_lt m _ _ _ hm
  obtain ⟨x1, w1, l1, m1, s1⟩ := tlvc.open_bys Tryd.underlying22 Tryd.underlying5 (by kernel_rfl) h1
  have r1 := tlvc.spots_reach hsz s1 (j := 1) rfl rfl Tryd.underlying22 (of_decide_eq_true (by kernel_rfl))
  clear hA0 hval0
  have hT : txc.Tabs W := txc.tabs_of hL
  refine (walk n0 c0_0 c0_1 c0_2 a1 len1 cap1 x1 W w0 w1 l1 r1 hT).mono fun e W' ⟨he, bel⟩ => ?_
  subst he
  exact ⟨_, rfl, _, _, _, [], _, [], hW', trodAll_mk1 (shut_bool Tryd.underlying4 _), (trodAll_cons_mk (Below.trod laidOut (by kernel_rfl) (of_decide_eq_true (by kernel_rfl)) k0 bel lt0) (trodAll_cons_mk (Below.trod laidOut (by kernel_rfl) (of_decide_eq_true (by kernel_rfl)) k1 bel lt1) trodAll_mk0)), rfl, bel.frame _, fun h => by cases h⟩

theorem over : Rows.nodesBackRow.holds Tryd.pinned (OpenSpec.ofChange Rows.nodesBackSpec) :=
  OpenClaim.holds_of_cond 5 Tryd.f5 rfl rfl rfl rfl rfl rfl rfl ⟨rfl, rfl, rfl, rfl, rfl⟩ rfl rfl rfl rfl rfl (by kernel_rfl) Tryd.func5 (by kernel_rfl)
    (of_decide_eq_true (by kernel_rfl)) (by unfold Func.isWrapper; first | (rw [if_pos (by decide +kernel)]; kernel_rfl) | (rw [if_neg (by decide +kernel)]; exact ⟨rfl, rfl⟩))
    (fun os started H enc _ F => by rw [OpenClaim.pre_eq_preRow]; exact lifted os started H enc F)

theorem plain (f : FuncId) (fn : Func) (hf : Tryd.pinned.checked.prog.funcNamed "warder/warderlaw04.NodesBack" = some f) (hfn : Tryd.pinned.checked.prog.funcs[f]? = some fn) :
    true = Tryd.pinned.checked.prog.looks [] ∧ ∀ (j : Nat) t, fn.params[j]? = some t → Tryd.pinned.checked.prog.wantsStandIn t = false := by
  obtain rfl : f = 5 := Option.some.inj ((show Tryd.prog.funcNamed "warder/warderlaw04.NodesBack" = some 5 by kernel_rfl).symm.trans hf) |>.symm
  obtain rfl : fn = Tryd.f5 := (Option.some.inj (Tryd.func5.symm.trans hfn)).symm
  refine ⟨by kernel_rfl, fun j t ht => ?_⟩
  rw [Tryd.params5] at ht
  match j, ht with
    | 0, ht => obtain rfl : t = 25 := (Option.some.inj ht).symm; exact (show Tryd.prog.wantsStandIn 25 = false by kernel_rfl)
    | 1, ht => obtain rfl : t = 22 := (Option.some.inj ht).symm; exact (show Tryd.prog.wantsStandIn 22 = false by kernel_rfl)
    | j + 2, ht => simp at ht

theorem proved : Rows.NodesBackCardSaid :=
  Claim7.holds_tied_plain_at .later [] _ _ _ _ over (fun _ h => by cases h) (by kernel_rfl) (fun _ h => by cases h) nodesBack_row_tie rfl ⟨rfl, rfl⟩ (by kernel_rfl) rfl plain (by kernel_rfl)
#print axioms proved
end Go.Proofs.YtaafgohaikhekaaDoor.nodesBack
