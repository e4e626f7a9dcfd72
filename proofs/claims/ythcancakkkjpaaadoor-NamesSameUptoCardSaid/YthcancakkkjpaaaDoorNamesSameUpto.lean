/- The law NamesSame of warderlaw09 answers true for every two names, and leaves its arguments as they were; where what it reads is of bulk at most 1048576 (the second form's bound), and the library's two tables are as its text lays them. -/
import Derived.Test.YthcancakkkjpaaaDoorCards
import Derived.Test.YthcancakkkjpaaaDoorTie
import Derived.WalkKit
import Derived.ProofKit
import Derived.OpenShut
import Derived.ChangeOld
import Derived.Below
import Derived.SizedLaws
import Derived.Test.YthcancakkkjpaaaDoorKb
import Derived.Test.YthcancakkkjpaaaDoorXc
import Derived.Test.YthcancakkkjpaaaDoorRs
namespace Go.Proofs.YthcancakkkjpaaaDoor.namesSameUpto
open Go.ChangeShapes Go.WideShapes Go.ChangeAt Go.RowKit
set_option linter.unusedVariables false

theorem own : ownKnob Tryd.prog.godebug = none := by kernel_rfl
theorem laidOut : laidOutB Tryd.prog = true := by kernel_rfl

open Go.Proofs.YthcancakkkjpaaaDoor.tlvc Go.Proofs.YthcancakkkjpaaaDoor.ndc Go.Proofs.YthcancakkkjpaaaDoor.txc Go.Proofs.YthcancakkkjpaaaDoor.nmc

set_option maxRecDepth 100000 in
set_option maxHeartbeats 8000000 in
theorem walk (a0 : Option Addr) (len0 cap0 : Nat) (x0 : List dtc.Dt) (a1 : Option Addr) (len1 cap1 : Nat) (x1 : List dtc.Dt) (w : World) (e0 : x0.length = len0) (s0 : ∀ x ∈ x0, dtc.IsSh (.agg [.row (.int .i64), .str]) x) (w0 : 0 < len0 → ∃ g off, a0 = some ⟨g, off, none⟩ ∧ g < w.heap.size ∧ dtc.LiesRow (fun _ => True) w g (dtc.Sh.sz (.agg [.row (.int .i64), .str])) off x0) (l0 : len0 ≤ cap0) (m0 : cap0 ≤ maxLen) (y0 : dtc.smallDts x0) (e1 : x1.length = len1) (s1 : ∀ x ∈ x1, dtc.IsSh (.agg [.row (.int .i64), .str]) x) (w1 : 0 < len1 → ∃ g off, a1 = some ⟨g, off, none⟩ ∧ g < w.heap.size ∧ dtc.LiesRow (fun _ => True) w g (dtc.Sh.sz (.agg [.row (.int .i64), .str])) off x1) (l1 : len1 ≤ cap1) (m1 : cap1 ≤ maxLen) (y1 : dtc.smallDts x1) (hT : txc.Tabs w) :
    Calls Tryd.prog 4 #[.slice a0 len0 cap0, .slice a1 len1 cap1] w fun e w' => e = .returned (.bool true) ∧ Below w.heap.size w w' := by
  obtain ⟨a, hl0, hL0, hz0⟩ := name_ofS s0 y0 e0 w0
  obtain ⟨b, hl1, hL1, hz1⟩ := name_ofS s1 y1 e1 w1
  have za : ∀ x ∈ a, x.text.size ≤ 8796093022208 := fun x hx => by have := hz0 x hx; omega
  have zb : ∀ x ∈ b, x.text.size ≤ 8796093022208 := fun x hx => by have := hz1 x hx; omega
  have HHD := Lib.hid (head_any w hT)
  have HS := Lib.hid (fun W (hW : Below w.heap.size w W) => same_any _ _ a0 a1 len0 cap0 len1 cap1 a b W hl0 hl1 (hL0.below hW) (hL1.below hW) l0 m0 l1 m1 za zb)
  have HR := Lib.hid (fun W (hW : Below w.heap.size w W) => rsame_any _ _ a0 a1 len0 cap0 len1 cap1 a b W hl0 hl1 (hL0.below hW) (hL1.below hW) l0 m0 l1 m1 za zb)
  have HU := Lib.hid (fun W (hW : Below w.heap.size w W) => under_any _ _ a0 a1 len0 cap0 len1 cap1 a b W hl0 hl1 (hL0.below hW) (hL1.below hW) l0 m0 l1 m1 za zb)
  have HV := Lib.hid (fun W (hW : Below w.heap.size w W) => runder_any _ _ a0 a1 len0 cap0 len1 cap1 a b W hl0 hl1 (hL0.below hW) (hL1.below hW) l0 m0 l1 m1 za zb)
  obtain ⟨r, hr⟩ : ∃ x, eqP eqA a b = x := ⟨_, rfl⟩
  obtain ⟨u, hu⟩ : ∃ x, unP a b = x := ⟨_, rfl⟩
  rw [hr] at HS HR
  rw [hu] at HU HV
  clear hr hu hl0 hL0 hz0 hl1 hL1 hz1 za zb hT s0 y0 e0 w0 s1 y1 e1 w1 l0 m0 l1 m1
  by_cases hb0 : 500 < len0
  · have hz : (500 : Int) < (len0 : Int) := by omega
    go_enter Tryd.func4, Tryd.ntmps4
    go_wp2_with fail
    refine HHD.out.mono ?_
    rintro e wa ⟨rfl, hba⟩
    have HA := Lib.hid hba
    clear hba HHD HS HR HU HV
    go_wp2
    go_ret
    exact ⟨rfl, HA.out⟩
  have hzn : ¬ (500 : Int) < (len0 : Int) := by omega
  by_cases hb1 : 500 < len1
  · have hz : (500 : Int) < (len1 : Int) := by omega
    go_enter Tryd.func4, Tryd.ntmps4
    go_wp2_with fail
    refine HHD.out.mono ?_
    rintro e wa ⟨rfl, hba⟩
    have HA := Lib.hid hba
    clear hba HHD HS HR HU HV
    go_wp2
    go_ret
    exact ⟨rfl, HA.out⟩
  have hzm : ¬ (500 : Int) < (len1 : Int) := by omega
  go_enter Tryd.func4, Tryd.ntmps4
  go_wp2_with fail
  refine HHD.out.mono ?_
  rintro e wa ⟨rfl, hba⟩
  have HC := Lib.hid (HS.out wa hba)
  have HA := Lib.hid hba
  clear hba HHD HS
  go_wp2_with fail
  refine HC.out.mono ?_
  rintro e wb ⟨rfl, hbb⟩
  have hbb := below_then HA.out hbb (Nat.le_refl _)
  have HC := Lib.hid (HR.out wb hbb)
  have HA := Lib.hid hbb
  clear hbb HR
  go_wp2_with fail
  refine HC.out.mono ?_
  rintro e wc ⟨rfl, hbb⟩
  have hbb := below_then HA.out hbb (Nat.le_refl _)
  have HC := Lib.hid (HU.out wc hbb)
  have HA := Lib.hid hbb
  clear hbb HU
  go_wp2_with fail
  refine HC.out.mono ?_
  rintro e wd ⟨rfl, hbb⟩
  have hbb := below_then HA.out hbb (Nat.le_refl _)
  have HC := Lib.hid (HV.out wd hbb)
  have HA := Lib.hid hbb
  clear hbb HV
  go_wp2_with fail
  refine HC.out.mono ?_
  rintro e we ⟨rfl, hbb⟩
  have HF := Lib.hid (below_then HA.out hbb (Nat.le_refl _))
  clear hbb HC HA
  go_wp2
  go_ret
  exact ⟨by first | rfl | simp, HF.out⟩

theorem reads (os : Os) {H : Type} (enc : TypeId × Value → H) : ∃ places, DataW.whole enc Tryd.prog ((txc.laidWorld os).forCall (fun _ _ => 0) ⟨#[], #[.slice none 0 0, .slice none 0 0], []⟩).memory Tryd.f4.params.toList Rows.namesSameSpec.vars false (#[.slice none 0 0, .slice none 0 0] : Array Value).toList 8 = some ([.nil, .nil], [], places) :=
  ⟨[], by kernel_rfl⟩
set_option maxRecDepth 100000 in
theorem lifted (os : Os) (started : os.Started) (H : Type) (enc : TypeId × Value → H) (F : Stop.Interp) :
    ReturnsInHanded {} Tryd.checked os 4 .any ((Rows.OpenSpec.upto Rows.namesSameSpec).preRow enc Tryd.prog Tryd.f4 Rows.namesSameUptoRow.domain false Rows.namesSameUptoRow.laid) (((Rows.OpenSpec.upto Rows.namesSameSpec).at F).post enc Tryd.prog Tryd.f4 false true false false) := by
  obtain ⟨places, hx⟩ := reads os enc
  refine returnsInHanded_of_row (C := Tryd.checked) (s := (Rows.OpenSpec.upto Rows.namesSameSpec)) own started (by kernel_rfl) Tryd.func4
    (witness_row_at (enc := enc) (C := Tryd.checked) false (txc.laidWorld os) #[.slice none 0 0, .slice none 0 0] rfl (by kernel_rfl) (by kernel_rfl) (by kernel_rfl)
      (OpenSpec.preRow_of_cond 8 hx (by kernel_rfl) (fun k hk => by cases hk; kernel_rfl) (by kernel_rfl) (txc.laid_met os _))) ?_
  intro W base args ds gs before hval0 hW hcnd hcond hsz0 hL _ _
  have hval : ∀ (j : Nat) t v, Tryd.f4.params[j]? = some t → args[j]? = some v → Value.okWide Tryd.prog W .any base t v := hval0
  have hW' := hW
  obtain ⟨p, q, hA0, hV, rfl, hfz, hnd⟩ := hW
  have hA : DataW.TrodAll enc Tryd.prog W 0 (fun _ => true) true Tryd.f4.params.toList args.toList ds p := hA0
  have hsz : (DataW.weightsEach Tryd.prog (Tryd.f4.params.toList ++ (Rows.OpenSpec.upto Rows.namesSameSpec).bare.plain.varTypes Tryd.prog) (ds ++ gs)).all (· ≤ reachBytes) = true := hsz0
  have hk : Rows.uptoSmall H (ds ++ gs) = true := hcond _ rfl
  rw [Tryd.params4] at hA hval hsz
  obtain ⟨v0, vs0, d0, ds0, p0, q0, hargs, rfl, rfl, h0, r_0⟩ := trodAll_cons hA
  obtain ⟨v1, vs1, d1, ds1, p1, q1, rfl, rfl, rfl, h1, r_1⟩ := trodAll_cons r_0
  obtain ⟨rfl, rfl, rfl⟩ := trodAll_nil r_1
  obtain rfl : args = #[v0, v1] := by cases args; simp_all
  obtain ⟨rfl, rfl⟩ := trodVars_none hV
  obtain ⟨a0, len0, cap0, rfl⟩ := okWide_slice Tryd.underlying23 (hval 0 23 v0 rfl rfl)
  have k0 := h0
  have lt0 : ∀ x ∈ p0, x.block < W.heap.size := by obtain ⟨m, hm⟩ := k0; exact DataW.trod_lt m _ _ _ hm
  obtain ⟨x0, e0, s0, w0, l0, m0, z0⟩ := dtc.open_rowS (s := .agg [.row (.int .i64), .str]) (dtc.fit_row Tryd.underlying23 (dtc.fit_agg Tryd.underlying49 (by kernel_rfl) (dtc.fits_cons (by kernel_rfl) (dtc.fit_row Tryd.underlying47 (dtc.fit_int Tryd.underlying3 (by kernel_rfl)) (by kernel_rfl) (by kernel_rfl)) (dtc.fits_cons (by kernel_rfl) (dtc.fit_str Tryd.underlying9 (by kernel_rfl)) dtc.fits_nil))) (by kernel_rfl) (by kernel_rfl)) h0
  have y0 := z0 (dtc.bulk_at hk (j := 0) rfl)
  obtain ⟨a1, len1, cap1, rfl⟩ := okWide_slice Tryd.underlying23 (hval 1 23 v1 rfl rfl)
  have k1 := h1
  have lt1 : ∀ x ∈ p1, x.block < W.heap.size := by obtain ⟨m, hm⟩ := k1; exact DataW.trod_lt m _ _ _ hm
  obtain ⟨x1, e1, s1, w1, l1, m1, z1⟩ := dtc.open_rowS (s := .agg [.row (.int .i64), .str]) (dtc.fit_row Tryd.underlying23 (dtc.fit_agg Tryd.underlying49 (by kernel_rfl) (dtc.fits_cons (by kernel_rfl) (dtc.fit_row Tryd.underlying47 (dtc.fit_int Tryd.underlying3 (by kernel_rfl)) (by kernel_rfl) (by kernel_rfl)) (dtc.fits_cons (by kernel_rfl) (dtc.fit_str Tryd.underlying9 (by kernel_rfl)) dtc.fits_nil))) (by kernel_rfl) (by kernel_rfl)) h1
  have y1 := z1 (dtc.bulk_at hk (j := 1) rfl)
  clear hA0 hval0
  have hT : txc.Tabs W := txc.tabs_of hL
  refine (walk a0 len0 cap0 x0 a1 len1 cap1 x1 W e0 s0 w0 l0 m0 y0 e1 s1 w1 l1 m1 y1 hT).mono fun e W' ⟨he, bel⟩ => ?_
  subst he
  exact ⟨_, rfl, _, _, _, [], _, [], hW', trodAll_mk1 (shut_bool Tryd.underlying4 _), (trodAll_cons_mk (Below.trod laidOut (by kernel_rfl) (of_decide_eq_true (by kernel_rfl)) k0 bel lt0) (trodAll_cons_mk (Below.trod laidOut (by kernel_rfl) (of_decide_eq_true (by kernel_rfl)) k1 bel lt1) trodAll_mk0)), rfl, bel.frame _, fun h => by cases h⟩

theorem over : Rows.namesSameUptoRow.holds Tryd.pinned (Rows.OpenSpec.upto Rows.namesSameSpec) :=
  OpenClaim.holds_of_cond 4 Tryd.f4 rfl rfl rfl rfl rfl rfl rfl ⟨rfl, rfl, rfl, rfl, rfl⟩ rfl rfl rfl rfl rfl (by kernel_rfl) Tryd.func4 (by kernel_rfl)
    (of_decide_eq_true (by kernel_rfl)) (by unfold Func.isWrapper; first | (rw [if_pos (by decide +kernel)]; kernel_rfl) | (rw [if_neg (by decide +kernel)]; exact ⟨rfl, rfl⟩))
    (fun os started H enc _ F => by rw [OpenClaim.pre_eq_preRow]; exact lifted os started H enc F)

theorem plain (f : FuncId) (fn : Func) (hf : Tryd.pinned.checked.prog.funcNamed "warder/warderlaw09.NamesSame" = some f) (hfn : Tryd.pinned.checked.prog.funcs[f]? = some fn) :
    true = Tryd.pinned.checked.prog.looks [] ∧ ∀ (j : Nat) t, fn.params[j]? = some t → Tryd.pinned.checked.prog.wantsStandIn t = false := by
  obtain rfl : f = 4 := Option.some.inj ((show Tryd.prog.funcNamed "warder/warderlaw09.NamesSame" = some 4 by kernel_rfl).symm.trans hf) |>.symm
  obtain rfl : fn = Tryd.f4 := (Option.some.inj (Tryd.func4.symm.trans hfn)).symm
  refine ⟨by kernel_rfl, fun j t ht => ?_⟩
  rw [Tryd.params4] at ht
  match j, ht with
    | 0, ht => obtain rfl : t = 23 := (Option.some.inj ht).symm; exact (show Tryd.prog.wantsStandIn 23 = false by kernel_rfl)
    | 1, ht => obtain rfl : t = 23 := (Option.some.inj ht).symm; exact (show Tryd.prog.wantsStandIn 23 = false by kernel_rfl)
    | j + 2, ht => simp at ht

theorem proved : Rows.NamesSameUptoCardSaid :=
  Claim7.holds_tied_plain_at .later [] _ _ _ _ over (fun _ h => by cases h) (by kernel_rfl) (fun _ h => by cases h) namesSameUpto_row_tie rfl ⟨rfl, rfl⟩ (by kernel_rfl) rfl plain (by kernel_rfl)
#print axioms proved
end Go.Proofs.YthcancakkkjpaaaDoor.namesSameUpto
