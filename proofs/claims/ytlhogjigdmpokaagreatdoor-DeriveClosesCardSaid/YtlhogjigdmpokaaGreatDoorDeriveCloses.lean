/- The law DeriveCloses of warderlaw08 answers true for every list of terms, list of handles and text, and leaves its arguments as they were; no condition. -/
import Derived.Test.YtlhogjigdmpokaaGreatDoorCards
import Derived.Test.YtlhogjigdmpokaaGreatDoorTie
import Derived.WalkKit
import Derived.ProofKit
import Derived.OpenShut
import Derived.ChangeOld
import Derived.Below
import Derived.SizedLaws
import Derived.Test.YtlhogjigdmpokaaGreatDoorTh
import Derived.Test.YtlhogjigdmpokaaGreatDoorVtTab
import Derived.Test.YtlhogjigdmpokaaGreatDoorDq
import Derived.Test.YtlhogjigdmpokaaGreatDoorHh
namespace Go.Proofs.YtlhogjigdmpokaaGreatDoor.deriveCloses
open Go.ChangeShapes Go.WideShapes Go.ChangeAt Go.RowKit
set_option linter.unusedVariables false

theorem own : ownKnob Tryz.prog.godebug = none := by kernel_rfl
theorem laidOut : laidOutB Tryz.prog = true := by kernel_rfl

open Go.Proofs.YtlhogjigdmpokaaGreatDoor.tlvc Go.Proofs.YtlhogjigdmpokaaGreatDoor.tmc Go.Proofs.YtlhogjigdmpokaaGreatDoor.vtc

set_option maxRecDepth 100000 in
set_option maxHeartbeats 16000000 in
theorem walk (a0 : Option Addr) (len0 cap0 : Nat) (x0 : List tmc.Tm) (a1 : Option Addr) (len1 cap1 : Nat) (x1 : List Int) (a2 : Option Addr) (len2 cap2 : Nat) (x2 : List Int) (w : World) (e0 : x0.length = len0) (w0 : tmc.Tms w a0 x0) (l0 : len0 ≤ cap0) (m0 : cap0 ≤ maxLen) (y0 : tmc.fitDs x0) (w1 : tlvc.Ins w a1 len1 x1) (l1 : len1 ≤ cap1) (r1 : cap1 ≤ 17592186043904) (w2 : tlvc.Bys w a2 len2 x2) (l2 : len2 ≤ cap2) (r2 : cap2 ≤ 140737488351232) (hT : txc.Tabs w) :
    Calls Tryz.prog 3 #[.slice a0 len0 cap0, .slice a1 len1 cap1, .slice a2 len2 cap2] w fun e w' => e = .returned (.bool true) ∧ Below w.heap.size w w' := by
  have hm1 : cap1 ≤ maxLen := by unfold maxLen; omega
  have hm2 : cap2 ≤ maxLen := by unfold maxLen; omega
  have HT := Lib.hid (show txc.Tab w.heap.size w from hT)
  have HX1 := Lib.hid (And.intro w1 hm1)
  have HX2 := Lib.hid (And.intro w2 hm2)
  have HH := Lib.hid (head8_any w hT)
  have HBO := Lib.hid fun (W : World) (hb : Below w.heap.size w W) => both_any a0 len0 cap0 x0 W e0 (tms_below w0 hb) l0 m0 ((hT.on hb).mono hb.size)
  clear w0 w1 w2 y0 e0 m0 hT hm1 hm2
  go_enter Tryz.func3, Tryz.ntmps3
  go_wp2_with fail
  refine HH.out.mono ?_
  rintro e wa ⟨rfl, hba⟩
  have HBA := Lib.hid hba
  have HB2 := Lib.hid (HBO.out wa hba)
  clear hba HBO HH
  go_wp2_with fail
  refine HB2.out.mono ?_
  rintro e wb (⟨rfl, hbb⟩ | ⟨vb, mb, ob, rb, od, L, rfl, htw, hsz⟩)
  · have HE := Lib.hid (blw HBA.out hbb)
    clear hbb
    go_wp2
    go_ret
    exact ⟨rfl, HE.out⟩
  · have hta : txc.Tab wa.heap.size wa := (HT.out.on HBA.out).mono HBA.out.size
    have hv := htw.vat hsz
    have HTA := Lib.hid hta
    have HV := Lib.hid hv
    have HW := Lib.hid htw
    have HE := Lib.hid (blw HBA.out hv.bel)
    clear htw hsz hv hta HB2
    by_cases hl5 : len1 ≤ 500
    · have hlz : ¬ (500 : Int) < (len1 : Int) := by omega
      by_cases hl6 : len2 ≤ 5000
      · have hlz2 : ¬ (5000 : Int) < (len2 : Int) := by omega
        have HC3 := Lib.hid (HV.out.closure HTA.out a1 len1 cap1 x1 (HX1.out.1.below HE.out) l1 HX1.out.2)
        go_wp2_with fail
        refine HC3.out.mono ?_
        rintro e w3 ⟨A3, c3, rfl, i3, ⟨l3, m3⟩, b3, _⟩
        have hq3 : ∀ g, g < wa.heap.size → g < w3.heap.size := fun g hg => by have := HV.out.bel.size; have := b3.size; omega
        have HC4 := Lib.hid (rclosure_any w3 (HW.out.rvl.below b3) hq3 HV.out.vlt.tbl a1 len1 cap1 x1 (HX1.out.1.below (blw HE.out b3)) l1 HX1.out.2)
        have H3 := Lib.hid (And.intro i3 (And.intro l3 (And.intro m3 b3)))
        clear i3 l3 m3 b3 hq3 HC3
        go_wp2_with fail
        refine HC4.out.mono ?_
        rintro e w4 ⟨A4, c4, rfl, i4, ⟨l4, m4⟩, b4, _⟩
        obtain ⟨az, haz⟩ : ∃ z, clF L x1 = z := ⟨_, rfl⟩
        have hsame := isame_b A3 A4 (clF L x1).length c3 (clF L x1).length c4 (clF L x1) (clF L x1) w4 (H3.out.1.below b4) i4 (by have := H3.out.2.1; have := H3.out.2.2.1; unfold maxLen at *; omega)
        rw [show decide (clF L x1 = clF L x1) = true from decide_eq_true rfl] at hsame
        have HS := Lib.hid hsame
        have H4 := Lib.hid (blw H3.out.2.2.2 b4)
        clear i4 l4 m4 b4 hsame HC4 haz
        go_wp2_with fail
        refine HS.out.mono ?_
        rintro e w5 ⟨rfl, hb5⟩
        have hb5' := blw H4.out hb5
        have HC6 := Lib.hid ((HV.out.below hb5').can HTA.out a1 len1 cap1 x1 (HX1.out.1.below (blw HE.out hb5')) l1 HX1.out.2 a2 len2 cap2 x2 (HX2.out.1.below (blw HE.out hb5')) l2 HX2.out.2 (by omega) HX2.out.1.2.1)
        have H5 := Lib.hid hb5'
        clear hb5 hb5' HS
        go_wp2_with fail
        refine HC6.out.mono ?_
        rintro e w6 ⟨rfl, hb6⟩
        have hb6' := blw H5.out hb6
        have hq6 : ∀ g, g < wa.heap.size → g < w6.heap.size := fun g hg => by have := HV.out.bel.size; have := hb6'.size; omega
        have HC7 := Lib.hid (rcan_any w6 (HW.out.rvl.below hb6') hq6 HV.out.vlt.tbl a1 len1 cap1 x1 (HX1.out.1.below (blw HE.out hb6')) l1 HX1.out.2 a2 len2 cap2 x2 (HX2.out.1.below (blw HE.out hb6')) l2 HX2.out.2 (by omega))
        have H6 := Lib.hid hb6'
        clear hb6 hb6' hq6 HC6
        go_wp2_with fail
        refine HC7.out.mono ?_
        rintro e w7 ⟨rfl, hb7⟩
        have H7 := Lib.hid (blw HE.out (blw H6.out hb7))
        have HC8 := Lib.hid (closure_nil a1 len1 cap1 w7)
        clear hb7 HC7
        go_wp2_with fail
        refine HC8.out.mono ?_
        rintro e w8 ⟨rfl, rfl⟩
        go_wp2_with fail
        go_ret
        exact ⟨by simp, H7.out⟩
      · have hlz2 : (5000 : Int) < (len2 : Int) := by omega
        go_wp2
        go_ret
        exact ⟨rfl, HE.out⟩
    · have hlz : (500 : Int) < (len1 : Int) := by omega
      go_wp2
      go_ret
      exact ⟨rfl, HE.out⟩

theorem reads (os : Os) {H : Type} (enc : TypeId × Value → H) : ∃ places, DataW.whole enc Tryz.prog ((txc.laidWorld os).forCall (fun _ _ => 0) ⟨#[], #[.slice none 0 0, .slice none 0 0, .slice none 0 0], []⟩).memory Tryz.f3.params.toList Rows.deriveClosesSpec.vars false (#[.slice none 0 0, .slice none 0 0, .slice none 0 0] : Array Value).toList 8 = some ([.nil, .nil, .nil], [], places) :=
  ⟨[], by kernel_rfl⟩
set_option maxRecDepth 100000 in
theorem lifted (os : Os) (started : os.Started) (H : Type) (enc : TypeId × Value → H) (F : Stop.Interp) :
    ReturnsInHanded {} Tryz.checked os 3 .any ((OpenSpec.ofChange Rows.deriveClosesSpec).preRow enc Tryz.prog Tryz.f3 Rows.deriveClosesRow.domain false Rows.deriveClosesRow.laid) (((OpenSpec.ofChange Rows.deriveClosesSpec).at F).post enc Tryz.prog Tryz.f3 false true false false) := by
  obtain ⟨places, hx⟩ := reads os enc
  refine returnsInHanded_of_row (C := Tryz.checked) (s := (OpenSpec.ofChange Rows.deriveClosesSpec)) own started (by kernel_rfl) Tryz.func3
    (witness_row_at (enc := enc) (C := Tryz.checked) false (txc.laidWorld os) #[.slice none 0 0, .slice none 0 0, .slice none 0 0] rfl (by kernel_rfl) (by kernel_rfl) (by kernel_rfl)
      (OpenSpec.preRow_of_cond 8 hx (by kernel_rfl) (fun k hk => by cases hk) (by kernel_rfl) (txc.laid_met os _))) ?_
  intro W base args ds gs before hval0 hW hcnd hcond hsz0 hL _ _
  have hval : ∀ (j : Nat) t v, Tryz.f3.params[j]? = some t → args[j]? = some v → Value.okWide Tryz.prog W .any base t v := hval0
  have hW' := hW
  obtain ⟨p, q, hA0, hV, rfl, hfz, hnd⟩ := hW
  have hA : DataW.TrodAll enc Tryz.prog W 0 (fun _ => true) true Tryz.f3.params.toList args.toList ds p := hA0
  have hsz : (DataW.weightsEach Tryz.prog (Tryz.f3.params.toList ++ (OpenSpec.ofChange Rows.deriveClosesSpec).bare.plain.varTypes Tryz.prog) (ds ++ gs)).all (· ≤ reachBytes) = true := hsz0
  rw [Tryz.params3] at hA hval hsz
  obtain ⟨v0, vs0, d0, ds0, p0, q0, hargs, rfl, rfl, h0, r_0⟩ := trodAll_cons hA
  obtain ⟨v1, vs1, d1, ds1, p1, q1, rfl, rfl, rfl, h1, r_1⟩ := trodAll_cons r_0
  obtain ⟨v2, vs2, d2, ds2, p2, q2, rfl, rfl, rfl, h2, r_2⟩ := trodAll_cons r_1
  obtain ⟨rfl, rfl, rfl⟩ := trodAll_nil r_2
  obtain rfl : args = #[v0, v1, v2] := by cases args; simp_all
  obtain ⟨rfl, rfl⟩ := trodVars_none hV
  obtain ⟨a0, len0, cap0, rfl⟩ := okWide_slice Tryz.underlying22 (hval 0 22 v0 rfl rfl)
  have k0 := h0
  have lt0 : ∀ x ∈ p0, x.block < W.heap.size := by obtain ⟨m, hm⟩ := k0; exact DataW.trod_lt m _ _ _ hm
  obtain ⟨x0, e0, w0, l0, m0, z0⟩ := tmc.open_tms ({ U := _, f0 := _, f1 := _, f2 := _, f3 := _, hT := Tryz.underlying43, hone := by kernel_rfl, hC := by kernel_rfl, e0 := Tryz.underlying41, e1 := Tryz.underlying2, e2 := Tryz.underlying24, eU := Tryz.underlying5, cU := by kernel_rfl, bU := by kernel_rfl, e3 := Tryz.underlying22 }) Tryz.underlying22 h0
  have y0 := z0 (tmc.each_fit hsz (j := 0) rfl rfl)
  obtain ⟨a1, len1, cap1, rfl⟩ := okWide_slice Tryz.underlying23 (hval 1 23 v1 rfl rfl)
  have k1 := h1
  have lt1 : ∀ x ∈ p1, x.block < W.heap.size := by obtain ⟨m, hm⟩ := k1; exact DataW.trod_lt m _ _ _ hm
  obtain ⟨x1, w1, l1, m1, s1⟩ := tlvc.open_ins Tryz.underlying23 Tryz.underlying3 (by kernel_rfl) h1
  have r1 := tlvc.spots_reach8 hsz s1 (j := 1) rfl rfl Tryz.underlying23 (of_decide_eq_true (by kernel_rfl))
  obtain ⟨a2, len2, cap2, rfl⟩ := okWide_slice Tryz.underlying24 (hval 2 24 v2 rfl rfl)
  have k2 := h2
  have lt2 : ∀ x ∈ p2, x.block < W.heap.size := by obtain ⟨m, hm⟩ := k2; exact DataW.trod_lt m _ _ _ hm
  obtain ⟨x2, w2, l2, m2, s2⟩ := tlvc.open_bys Tryz.underlying24 Tryz.underlying5 (by kernel_rfl) h2
  have r2 := tlvc.spots_reach hsz s2 (j := 2) rfl rfl Tryz.underlying24 (of_decide_eq_true (by kernel_rfl))
  clear hA0 hval0
  have hT : txc.Tabs W := txc.tabs_of hL
  refine (walk a0 len0 cap0 x0 a1 len1 cap1 x1 a2 len2 cap2 x2 W e0 w0 l0 m0 y0 w1 l1 r1 w2 l2 r2 hT).mono fun e W' ⟨he, bel⟩ => ?_
  subst he
  exact ⟨_, rfl, _, _, _, [], _, [], hW', trodAll_mk1 (shut_bool Tryz.underlying4 _), (trodAll_cons_mk (Below.trod laidOut (by kernel_rfl) (of_decide_eq_true (by kernel_rfl)) k0 bel lt0) (trodAll_cons_mk (Below.trod laidOut (by kernel_rfl) (of_decide_eq_true (by kernel_rfl)) k1 bel lt1) (trodAll_cons_mk (Below.trod laidOut (by kernel_rfl) (of_decide_eq_true (by kernel_rfl)) k2 bel lt2) trodAll_mk0))), rfl, bel.frame _, fun h => by cases h⟩

theorem over : Rows.deriveClosesRow.holds Tryz.pinned (OpenSpec.ofChange Rows.deriveClosesSpec) :=
  OpenClaim.holds_of_cond 3 Tryz.f3 rfl rfl rfl rfl rfl rfl rfl ⟨rfl, rfl, rfl, rfl, rfl⟩ rfl rfl rfl rfl rfl (by kernel_rfl) Tryz.func3 (by kernel_rfl)
    (of_decide_eq_true (by kernel_rfl)) (by unfold Func.isWrapper; first | (rw [if_pos (by decide +kernel)]; kernel_rfl) | (rw [if_neg (by decide +kernel)]; exact ⟨rfl, rfl⟩))
    (fun os started H enc _ F => by rw [OpenClaim.pre_eq_preRow]; exact lifted os started H enc F)

theorem plain (f : FuncId) (fn : Func) (hf : Tryz.pinned.checked.prog.funcNamed "warder/warderlaw08.DeriveCloses" = some f) (hfn : Tryz.pinned.checked.prog.funcs[f]? = some fn) :
    false = Tryz.pinned.checked.prog.looks [] ∧ ∀ (j : Nat) t, fn.params[j]? = some t → Tryz.pinned.checked.prog.wantsStandIn t = false := by
  obtain rfl : f = 3 := Option.some.inj ((show Tryz.prog.funcNamed "warder/warderlaw08.DeriveCloses" = some 3 by kernel_rfl).symm.trans hf) |>.symm
  obtain rfl : fn = Tryz.f3 := (Option.some.inj (Tryz.func3.symm.trans hfn)).symm
  refine ⟨by kernel_rfl, fun j t ht => ?_⟩
  rw [Tryz.params3] at ht
  match j, ht with
    | 0, ht => obtain rfl : t = 22 := (Option.some.inj ht).symm; exact (show Tryz.prog.wantsStandIn 22 = false by kernel_rfl)
    | 1, ht => obtain rfl : t = 23 := (Option.some.inj ht).symm; exact (show Tryz.prog.wantsStandIn 23 = false by kernel_rfl)
    | 2, ht => obtain rfl : t = 24 := (Option.some.inj ht).symm; exact (show Tryz.prog.wantsStandIn 24 = false by kernel_rfl)
    | j + 3, ht => simp at ht

theorem proved : Rows.DeriveClosesCardSaid :=
  Claim7.holds_tied_plain_at .later [] _ _ _ _ over (fun _ h => by cases h) (by kernel_rfl) (fun _ h => by cases h) deriveCloses_row_tie rfl ⟨rfl, rfl⟩ (by kernel_rfl) rfl plain (by kernel_rfl)
#print axioms proved
end Go.Proofs.YtlhogjigdmpokaaGreatDoor.deriveCloses
