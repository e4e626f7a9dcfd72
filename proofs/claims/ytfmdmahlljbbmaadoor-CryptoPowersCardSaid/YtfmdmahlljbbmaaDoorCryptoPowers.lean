/- The law CryptoPowers of warderlaw07 answers true for every list of terms, two handles and two slices of bytes, and leaves its arguments as they were; no condition. -/
import Derived.Test.YtfmdmahlljbbmaaDoorCards
import Derived.Test.YtfmdmahlljbbmaaDoorTie
import Derived.WalkKit
import Derived.ProofKit
import Derived.OpenShut
import Derived.ChangeOld
import Derived.Below
import Derived.SizedLaws
import Derived.Test.YtfmdmahlljbbmaaDoorTh
import Derived.Test.YtfmdmahlljbbmaaDoorVtTab
import Derived.Test.YtfmdmahlljbbmaaDoorCg
import Derived.Deep.DeepCutAuto
namespace Go.Proofs.YtfmdmahlljbbmaaDoor.cryptoPowers
open Go.ChangeShapes Go.WideShapes Go.ChangeAt Go.RowKit
set_option linter.unusedVariables false

theorem own : ownKnob Tryd.prog.godebug = none := by kernel_rfl
theorem laidOut : laidOutB Tryd.prog = true := by kernel_rfl

open Go.Proofs.YtfmdmahlljbbmaaDoor.tlvc Go.Proofs.YtfmdmahlljbbmaaDoor.tmc Go.Proofs.YtfmdmahlljbbmaaDoor.vtc

set_option maxRecDepth 100000 in
set_option maxHeartbeats 16000000 in
theorem walk (a0 : Option Addr) (len0 cap0 : Nat) (x0 : List tmc.Tm) (a1 : Int) (a2 : Int) (a3 : Option Addr) (len3 cap3 : Nat) (x3 : List Int) (a4 : Option Addr) (len4 cap4 : Nat) (x4 : List Int) (w : World) (e0 : x0.length = len0) (w0 : tmc.Tms w a0 x0) (l0 : len0 ≤ cap0) (m0 : cap0 ≤ maxLen) (y0 : tmc.fitDs x0) (w1 : (Lit.int .i64 a1).wf = true) (w2 : (Lit.int .i64 a2).wf = true) (w3 : tlvc.Bys w a3 len3 x3) (l3 : len3 ≤ cap3) (r3 : cap3 ≤ 140737488351232) (w4 : tlvc.Bys w a4 len4 x4) (l4 : len4 ≤ cap4) (r4 : cap4 ≤ 140737488351232) (hT : txc.Tabs w) :
    Calls Tryd.prog 9 #[.slice a0 len0 cap0, .int .i64 a1, .int .i64 a2, .slice a3 len3 cap3, .slice a4 len4 cap4] w fun e w' => e = .returned (.bool true) ∧ Below w.heap.size w w' := by
  have h1 : I64 a1 := bounds_i64 w1
  have h2 : I64 a2 := bounds_i64 w2
  have hm3 : cap3 ≤ maxLen := by unfold maxLen; omega
  have hm4 : cap4 ≤ maxLen := by unfold maxLen; omega
  have HSAME := Lib.hid (str_same w3.fit w4.fit)
  have HT := Lib.hid (show txc.Tab w.heap.size w from hT)
  have HH := Lib.hid (head7_any w hT)
  have HBO := Lib.hid fun (W : World) (hb : Below w.heap.size w W) => both_any a0 len0 cap0 x0 W e0 (tms_below w0 hb) l0 m0 ((hT.on hb).mono hb.size)
  have HD3 : Hid (∀ (L : List Tm) (wx : World) (W0 : World) (vb mb : Nat) (ob : Option Nat), Below w.heap.size w W0 → Vat W0 vb mb ob L wx → Bys wx a3 len3 x3 ∧ (0 < len3 → ∀ g off sp, a3 = some ⟨g, off, sp⟩ → ¬ Mut vb mb ob g)) := Lib.hid fun L wx W0 vb mb ob hb hv => ⟨w3.below (blw hb hv.bel), fun hl g off sp e => by
    obtain ⟨b, off', e', hb', _⟩ := w3.2.2 hl
    rw [e'] at e
    cases e
    exact hv.far (Nat.lt_of_lt_of_le hb' hb.size)⟩
  have HD4 : Hid (∀ (L : List Tm) (wx : World) (W0 : World) (vb mb : Nat) (ob : Option Nat), Below w.heap.size w W0 → Vat W0 vb mb ob L wx → Bys wx a4 len4 x4 ∧ (0 < len4 → ∀ g off sp, a4 = some ⟨g, off, sp⟩ → ¬ Mut vb mb ob g)) := Lib.hid fun L wx W0 vb mb ob hb hv => ⟨w4.below (blw hb hv.bel), fun hl g off sp e => by
    obtain ⟨b, off', e', hb', _⟩ := w4.2.2 hl
    rw [e'] at e
    cases e
    exact hv.far (Nat.lt_of_lt_of_le hb' hb.size)⟩
  clear w0 w1 w2 w3 w4 y0 e0 m0 hT
  go_enter Tryd.func9, Tryd.ntmps9
  go_wp2_with fail
  refine HH.out.mono ?_
  rintro e wa ⟨rfl, hba⟩
  have HBA := Lib.hid hba
  have HB2 := Lib.hid (HBO.out wa hba)
  clear hba HBO HH
  go_wp2_with fail
  refine HB2.out.mono ?_
  rintro e wb (⟨rfl, hbb⟩ | ⟨vb, mb, ob, rb, od, L, rfl, htw, hsz⟩)
  · have HE := Lib.hid (blw HBA.out hbb)
    clear hbb
    go_wp2
    go_ret
    exact ⟨rfl, HE.out⟩
  · have hta : txc.Tab wa.heap.size wa := (HT.out.on HBA.out).mono HBA.out.size
    have hv := htw.vat hsz
    have HTA := Lib.hid hta
    obtain ⟨p, e, L1, k1⟩ : ∃ a e L1, ofF L 7 a1 [] = (a, e, L1) := ⟨_, _, _, rfl⟩
    obtain ⟨q, f, L2, k2⟩ : ∃ a e L2, ofF L1 7 a2 [] = (a, e, L2) := ⟨_, _, _, rfl⟩
    obtain ⟨h, i, L3, k3⟩ : ∃ a e L3, internV (.mk 5 0 x3 []) L2 = (a, e, L3) := ⟨_, _, _, rfl⟩
    obtain ⟨k, j, L4, k4⟩ : ∃ a e L4, internV (.mk 5 0 x4 []) L3 = (a, e, L4) := ⟨_, _, _, rfl⟩
    have hg0 := hv.good
    obtain ⟨hg1, hp1⟩ := of_good hg0 k1
    obtain ⟨hg2, hp2⟩ := of_good hg1 k2
    have hg3 := good_intern hg2 (.mk 5 0 x3 [])
    rw [k3] at hg3
    have hg4 := good_intern hg3.1 (.mk 5 0 x4 [])
    rw [k4] at hg4
    have HHS := Lib.hid (show i = 0 → j = 0 → (h == k) = decide (x3 = x4) from fun e1 e2 => by
      subst e1 e2
      have := hash_same hg2 k3 k4
      rw [← this]
      rw [Bool.eq_iff_iff]
      simp)
    have HPW := Lib.hid (show ∀ r g L5 s m L6, e = 0 → f = 0 → powL L4 p a2 = (r, g, L5) → powL L5 q a1 = (s, m, L6) → (g = 0 → m = 0 → r = s) ∧ (p == q) = (a1 == a2) from fun r g L5 s m L6 e1 e2 k5 k6 => by
      subst e1 e2
      exact powers_ok hg0 k1 k2 (hg3.2.trans hg4.2) hg4.1 k5 k6)
    have HPI := Lib.hid (show I64 p ∧ I64 q from ⟨of_i64 hg0 k1, of_i64 hg1 k2⟩)
    have HC1 := Lib.hid (hv.exp hta a1 h1 k1)
    have HK := Lib.hid (And.intro k2 (And.intro k3 k4))
    clear htw hsz hv hta HB2 hg0 hg1 hp1 hg2 hp2 hg3 hg4 k1 k2 k3 k4
    go_wp2_with fail
    refine HC1.out.mono ?_
    rintro en w3 ⟨ob1, rfl, hv1⟩
    have HC2 := Lib.hid (hv1.exp HTA.out a2 h2 HK.out.1)
    clear hv1 HC1
    go_wp2_with fail
    refine HC2.out.mono ?_
    rintro en w4 ⟨ob2, rfl, hv1⟩
    obtain ⟨d1, d2⟩ := HD3.out L2 w4 wa vb mb ob2 HBA.out hv1
    have HC3 := Lib.hid (hv1.hash HTA.out a3 len3 cap3 x3 d1 l3 hm3 d2 HK.out.2.1)
    clear hv1 HC2 d1 d2
    go_wp2_with fail
    refine HC3.out.mono ?_
    rintro en w5 ⟨ob3, rfl, hv1⟩
    obtain ⟨d1, d2⟩ := HD4.out L3 w5 wa vb mb ob3 HBA.out hv1
    have HC4 := Lib.hid (hv1.hash HTA.out a4 len4 cap4 x4 d1 l4 hm4 d2 HK.out.2.2)
    clear hv1 HC3 d1 d2
    go_wp2_with fail
    refine HC4.out.mono ?_
    rintro en w6 ⟨ob4, rfl, hv1⟩
    obtain ⟨d3, _⟩ := HD3.out L4 w6 wa vb mb ob4 HBA.out hv1
    obtain ⟨d4, _⟩ := HD4.out L4 w6 wa vb mb ob4 HBA.out hv1
    have HS := Lib.hid (And.intro (str_now d3 cap3) (str_now d4 cap4))
    have HV6 := Lib.hid hv1
    obtain ⟨qq, hqq⟩ : ∃ b, decide (x3 = x4) = b := ⟨_, rfl⟩
    have hsame := HSAME.out
    have hhs := HHS.out
    rw [hqq] at hsame hhs
    have HSM := Lib.hid (And.intro hsame hhs)
    clear hv1 HC4 d3 d4 hqq HSAME HHS HD3 HD4 hsame hhs
    go_upto_region 9 with fail
    go_cut [77] (fun s77 wx => s77 = .bool false ∧ Hid (Vat wa vb mb ob4 L4 wx))
    case first =>
      obtain ⟨s3, s4⟩ := HS.out
      obtain ⟨hsame, hhs⟩ := HSM.out
      have hb1 : (qq != qq) = false := by cases qq <;> rfl
      by_cases hi0 : i = 0
      · by_cases hj0 : j = 0
        · have hhk := hhs hi0 hj0
          subst hi0 hj0
          clear hhs HPW HK
          go_wp2_with fail
          go_meet
          exact ⟨rfl, HV6⟩
        · have hj1 : (j == 0) = false := by simp [hj0]
          subst hi0
          clear hhs HPW HK
          go_wp2_with fail
          go_meet
          exact ⟨rfl, HV6⟩
      · have hi1 : (i == 0) = false := by simp [hi0]
        clear hhs HPW HK
        go_wp2_with fail
        go_meet
        exact ⟨rfl, HV6⟩
    case rest =>
      clear HV6 HS HSM
      obtain ⟨rfl, HV6⟩ := hcut
      by_cases hef : e = 0 ∧ f = 0
      · obtain ⟨he0, hf0⟩ := hef
        obtain ⟨r, g, L5, k5⟩ : ∃ a e L5, powL L4 p a2 = (a, e, L5) := ⟨_, _, _, rfl⟩
        obtain ⟨s, m, L6, k6⟩ : ∃ a e L6, powL L5 q a1 = (a, e, L6) := ⟨_, _, _, rfl⟩
        obtain ⟨hrs, hpq⟩ := HPW.out r g L5 s m L6 he0 hf0 k5 k6
        subst he0 hf0
        have HC5 := Lib.hid (HV6.out.pow HTA.out p a2 HPI.out.1 h2 k5)
        have HK6 := Lib.hid k6
        have HRS := Lib.hid hrs
        obtain ⟨bb, hbb⟩ : ∃ b, (a1 == a2) = b := ⟨_, rfl⟩
        rw [hbb] at hpq
        have hb2 : (bb == bb) = true := by cases bb <;> rfl
        clear HPW HK HV6 k5 k6 hrs
        go_wp2_with fail
        refine HC5.out.mono ?_
        rintro en w7 ⟨ob5, rfl, hv7⟩
        have HC6 := Lib.hid (hv7.pow HTA.out q a1 HPI.out.2 h1 HK6.out)
        clear hv7 HC5
        go_wp2_with fail
        refine HC6.out.mono ?_
        rintro en w8 ⟨ob6, rfl, hv8⟩
        have HE := Lib.hid (blw HBA.out hv8.bel)
        clear hv8 HC6
        by_cases hg0 : g = 0
        · by_cases hm0 : m = 0
          · have hr := HRS.out hg0 hm0
            have hr2 : (r == s) = true := by simp [hr]
            subst hg0 hm0
            clear hr
            go_wp2
            go_ret
            exact ⟨by simp, HE.out⟩
          · have hm1 : (m != 0) = true := by simp [hm0]
            subst hg0
            go_wp2
            go_ret
            exact ⟨by simp, HE.out⟩
        · have hg1 : (g != 0) = true := by simp [hg0]
          go_wp2
          go_ret
          exact ⟨by simp, HE.out⟩
      · have HE := Lib.hid (blw HBA.out HV6.out.bel)
        clear HPW HK HV6
        by_cases he0 : e = 0
        · have hf0 : ¬ f = 0 := fun e1 => hef ⟨he0, e1⟩
          have hf1 : (f != 0) = true := by simp [hf0]
          subst he0
          clear hef
          go_wp2
          go_ret
          exact ⟨rfl, HE.out⟩
        · have he1 : (e != 0) = true := by simp [he0]
          clear hef
          go_wp2
          go_ret
          exact ⟨rfl, HE.out⟩

theorem reads (os : Os) {H : Type} (enc : TypeId × Value → H) : ∃ places, DataW.whole enc Tryd.prog ((txc.laidWorld os).forCall (fun _ _ => 0) ⟨#[], #[.slice none 0 0, .int .i64 0, .int .i64 0, .slice none 0 0, .slice none 0 0], []⟩).memory Tryd.f9.params.toList Rows.cryptoPowersSpec.vars false (#[.slice none 0 0, .int .i64 0, .int .i64 0, .slice none 0 0, .slice none 0 0] : Array Value).toList 8 = some ([.nil, .lit (.int .i64 0), .lit (.int .i64 0), .nil, .nil], [], places) :=
  ⟨[], by kernel_rfl⟩
set_option maxRecDepth 100000 in
theorem lifted (os : Os) (started : os.Started) (H : Type) (enc : TypeId × Value → H) (F : Stop.Interp) :
    ReturnsInHanded {} Tryd.checked os 9 .any ((OpenSpec.ofChange Rows.cryptoPowersSpec).preRow enc Tryd.prog Tryd.f9 Rows.cryptoPowersRow.domain false Rows.cryptoPowersRow.laid) (((OpenSpec.ofChange Rows.cryptoPowersSpec).at F).post enc Tryd.prog Tryd.f9 false true false false) := by
  obtain ⟨places, hx⟩ := reads os enc
  refine returnsInHanded_of_row (C := Tryd.checked) (s := (OpenSpec.ofChange Rows.cryptoPowersSpec)) own started (by kernel_rfl) Tryd.func9
    (witness_row_at (enc := enc) (C := Tryd.checked) false (txc.laidWorld os) #[.slice none 0 0, .int .i64 0, .int .i64 0, .slice none 0 0, .slice none 0 0] rfl (by kernel_rfl) (by kernel_rfl) (by kernel_rfl)
      (OpenSpec.preRow_of_cond 8 hx (by kernel_rfl) (fun k hk => by cases hk) (by kernel_rfl) (txc.laid_met os _))) ?_
  intro W base args ds gs before hval0 hW hcnd hcond hsz0 hL _ _
  have hval : ∀ (j : Nat) t v, Tryd.f9.params[j]? = some t → args[j]? = some v → Value.okWide Tryd.prog W .any base t v := hval0
  have hW' := hW
  obtain ⟨p, q, hA0, hV, rfl, hfz, hnd⟩ := hW
  have hA : DataW.TrodAll enc Tryd.prog W 0 (fun _ => true) true Tryd.f9.params.toList args.toList ds p := hA0
  have hsz : (DataW.weightsEach Tryd.prog (Tryd.f9.params.toList ++ (OpenSpec.ofChange Rows.cryptoPowersSpec).bare.plain.varTypes Tryd.prog) (ds ++ gs)).all (· ≤ reachBytes) = true := hsz0
  rw [Tryd.params9] at hA hval hsz
  obtain ⟨v0, vs0, d0, ds0, p0, q0, hargs, rfl, rfl, h0, r_0⟩ := trodAll_cons hA
  obtain ⟨v1, vs1, d1, ds1, p1, q1, rfl, rfl, rfl, h1, r_1⟩ := trodAll_cons r_0
  obtain ⟨v2, vs2, d2, ds2, p2, q2, rfl, rfl, rfl, h2, r_2⟩ := trodAll_cons r_1
  obtain ⟨v3, vs3, d3, ds3, p3, q3, rfl, rfl, rfl, h3, r_3⟩ := trodAll_cons r_2
  obtain ⟨v4, vs4, d4, ds4, p4, q4, rfl, rfl, rfl, h4, r_4⟩ := trodAll_cons r_3
  obtain ⟨rfl, rfl, rfl⟩ := trodAll_nil r_4
  obtain rfl : args = #[v0, v1, v2, v3, v4] := by cases args; simp_all
  obtain ⟨rfl, rfl⟩ := trodVars_none hV
  obtain ⟨a0, len0, cap0, rfl⟩ := okWide_slice Tryd.underlying22 (hval 0 22 v0 rfl rfl)
  have k0 := h0
  have lt0 : ∀ x ∈ p0, x.block < W.heap.size := by obtain ⟨m, hm⟩ := k0; exact DataW.trod_lt m _ _ _ hm
  obtain ⟨x0, e0, w0, l0, m0, z0⟩ := tmc.open_tms ({ U := _, f0 := _, f1 := _, f2 := _, f3 := _, hT := Tryd.underlying26, hone := by kernel_rfl, hC := by kernel_rfl, e0 := Tryd.underlying23, e1 := Tryd.underlying2, e2 := Tryd.underlying24, eU := Tryd.underlying5, cU := by kernel_rfl, bU := by kernel_rfl, e3 := Tryd.underlying22 }) Tryd.underlying22 h0
  have y0 := z0 (tmc.each_fit hsz (j := 0) rfl rfl)
  obtain ⟨a1, rfl, rfl, rfl, w1⟩ := open_int Tryd.underlying3 (hval 1 3 v1 rfl rfl) h1
  obtain ⟨a2, rfl, rfl, rfl, w2⟩ := open_int Tryd.underlying3 (hval 2 3 v2 rfl rfl) h2
  obtain ⟨a3, len3, cap3, rfl⟩ := okWide_slice Tryd.underlying24 (hval 3 24 v3 rfl rfl)
  have k3 := h3
  have lt3 : ∀ x ∈ p3, x.block < W.heap.size := by obtain ⟨m, hm⟩ := k3; exact DataW.trod_lt m _ _ _ hm
  obtain ⟨x3, w3, l3, m3, s3⟩ := tlvc.open_bys Tryd.underlying24 Tryd.underlying5 (by kernel_rfl) h3
  have r3 := tlvc.spots_reach hsz s3 (j := 3) rfl rfl Tryd.underlying24 (of_decide_eq_true (by kernel_rfl))
  obtain ⟨a4, len4, cap4, rfl⟩ := okWide_slice Tryd.underlying24 (hval 4 24 v4 rfl rfl)
  have k4 := h4
  have lt4 : ∀ x ∈ p4, x.block < W.heap.size := by obtain ⟨m, hm⟩ := k4; exact DataW.trod_lt m _ _ _ hm
  obtain ⟨x4, w4, l4, m4, s4⟩ := tlvc.open_bys Tryd.underlying24 Tryd.underlying5 (by kernel_rfl) h4
  have r4 := tlvc.spots_reach hsz s4 (j := 4) rfl rfl Tryd.underlying24 (of_decide_eq_true (by kernel_rfl))
  clear hA0 hval0
  have hT : txc.Tabs W := txc.tabs_of hL
  refine (walk a0 len0 cap0 x0 a1 a2 a3 len3 cap3 x3 a4 len4 cap4 x4 W e0 w0 l0 m0 y0 w1 w2 w3 l3 r3 w4 l4 r4 hT).mono fun e W' ⟨he, bel⟩ => ?_
  subst he
  exact ⟨_, rfl, _, _, _, [], _, [], hW', trodAll_mk1 (shut_bool Tryd.underlying4 _), (trodAll_cons_mk (Below.trod laidOut (by kernel_rfl) (of_decide_eq_true (by kernel_rfl)) k0 bel lt0) (trodAll_cons_mk (shut_int Tryd.underlying3 w1) (trodAll_cons_mk (shut_int Tryd.underlying3 w2) (trodAll_cons_mk (Below.trod laidOut (by kernel_rfl) (of_decide_eq_true (by kernel_rfl)) k3 bel lt3) (trodAll_cons_mk (Below.trod laidOut (by kernel_rfl) (of_decide_eq_true (by kernel_rfl)) k4 bel lt4) trodAll_mk0))))), rfl, bel.frame _, fun h => by cases h⟩

theorem over : Rows.cryptoPowersRow.holds Tryd.pinned (OpenSpec.ofChange Rows.cryptoPowersSpec) :=
  OpenClaim.holds_of_cond 9 Tryd.f9 rfl rfl rfl rfl rfl rfl rfl ⟨rfl, rfl, rfl, rfl, rfl⟩ rfl rfl rfl rfl rfl (by kernel_rfl) Tryd.func9 (by kernel_rfl)
    (of_decide_eq_true (by kernel_rfl)) (by unfold Func.isWrapper; first | (rw [if_pos (by decide +kernel)]; kernel_rfl) | (rw [if_neg (by decide +kernel)]; exact ⟨rfl, rfl⟩))
    (fun os started H enc _ F => by rw [OpenClaim.pre_eq_preRow]; exact lifted os started H enc F)

theorem plain (f : FuncId) (fn : Func) (hf : Tryd.pinned.checked.prog.funcNamed "warder/warderlaw07.CryptoPowers" = some f) (hfn : Tryd.pinned.checked.prog.funcs[f]? = some fn) :
    false = Tryd.pinned.checked.prog.looks [] ∧ ∀ (j : Nat) t, fn.params[j]? = some t → Tryd.pinned.checked.prog.wantsStandIn t = false := by
  obtain rfl : f = 9 := Option.some.inj ((show Tryd.prog.funcNamed "warder/warderlaw07.CryptoPowers" = some 9 by kernel_rfl).symm.trans hf) |>.symm
  obtain rfl : fn = Tryd.f9 := (Option.some.inj (Tryd.func9.symm.trans hfn)).symm
  refine ⟨by kernel_rfl, fun j t ht => ?_⟩
  rw [Tryd.params9] at ht
  match j, ht with
    | 0, ht => obtain rfl : t = 22 := (Option.some.inj ht).symm; exact (show Tryd.prog.wantsStandIn 22 = false by kernel_rfl)
    | 1, ht => obtain rfl : t = 3 := (Option.some.inj ht).symm; exact (show Tryd.prog.wantsStandIn 3 = false by kernel_rfl)
    | 2, ht => obtain rfl : t = 3 := (Option.some.inj ht).symm; exact (show Tryd.prog.wantsStandIn 3 = false by kernel_rfl)
    | 3, ht => obtain rfl : t = 24 := (Option.some.inj ht).symm; exact (show Tryd.prog.wantsStandIn 24 = false by kernel_rfl)
    | 4, ht => obtain rfl : t = 24 := (Option.some.inj ht).symm; exact (show Tryd.prog.wantsStandIn 24 = false by kernel_rfl)
    | j + 5, ht => simp at ht

theorem proved : Rows.CryptoPowersCardSaid :=
  Claim7.holds_tied_plain_at .later [] _ _ _ _ over (fun _ h => by cases h) (by kernel_rfl) (fun _ h => by cases h) cryptoPowers_row_tie rfl ⟨rfl, rfl⟩ (by kernel_rfl) rfl plain (by kernel_rfl)
#print axioms proved
end Go.Proofs.YtfmdmahlljbbmaaDoor.cryptoPowers
