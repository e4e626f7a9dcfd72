/- The law CryptoAgain of warderlaw07 answers true for every list of terms, key and bytes, and leaves its arguments as they were; no condition. -/
import Derived.Test.YtfmdmahlljbbmaaDoorCards
import Derived.Test.YtfmdmahlljbbmaaDoorTie
import Derived.WalkKit
import Derived.ProofKit
import Derived.OpenShut
import Derived.ChangeOld
import Derived.Below
import Derived.SizedLaws
import Derived.Test.YtfmdmahlljbbmaaDoorTh
import Derived.Test.YtfmdmahlljbbmaaDoorVtTab
import Derived.Test.YtfmdmahlljbbmaaDoorCf
namespace Go.Proofs.YtfmdmahlljbbmaaDoor.cryptoAgain
open Go.ChangeShapes Go.WideShapes Go.ChangeAt Go.RowKit
set_option linter.unusedVariables false

theorem own : ownKnob Tryd.prog.godebug = none := by kernel_rfl
theorem laidOut : laidOutB Tryd.prog = true := by kernel_rfl

open Go.Proofs.YtfmdmahlljbbmaaDoor.tlvc Go.Proofs.YtfmdmahlljbbmaaDoor.tmc Go.Proofs.YtfmdmahlljbbmaaDoor.vtc

set_option maxRecDepth 100000 in
set_option maxHeartbeats 16000000 in
theorem walk (a0 : Option Addr) (len0 cap0 : Nat) (x0 : List tmc.Tm) (a1 : Int) (a2 : Option Addr) (len2 cap2 : Nat) (x2 : List Int) (w : World) (e0 : x0.length = len0) (w0 : tmc.Tms w a0 x0) (l0 : len0 ≤ cap0) (m0 : cap0 ≤ maxLen) (y0 : tmc.fitDs x0) (w1 : (Lit.int .i64 a1).wf = true) (w2 : tlvc.Bys w a2 len2 x2) (l2 : len2 ≤ cap2) (r2 : cap2 ≤ 140737488351232) (hT : txc.Tabs w) :
    Calls Tryd.prog 10 #[.slice a0 len0 cap0, .int .i64 a1, .slice a2 len2 cap2] w fun e w' => e = .returned (.bool true) ∧ Below w.heap.size w w' := by
  have hkey : I64 a1 := bounds_i64 w1
  have hm2 : cap2 ≤ maxLen := by unfold maxLen; omega
  have HT := Lib.hid (show txc.Tab w.heap.size w from hT)
  have HW2 := Lib.hid w2
  have HH := Lib.hid (head7_any w hT)
  have HBO := Lib.hid fun (W : World) (hb : Below w.heap.size w W) => both_any a0 len0 cap0 x0 W e0 (tms_below w0 hb) l0 m0 ((hT.on hb).mono hb.size)
  have HD : Hid (∀ (L : List Tm) (wx : World) (W0 : World) (vb mb : Nat) (ob : Option Nat), Below w.heap.size w W0 → Vat W0 vb mb ob L wx → Bys wx a2 len2 x2 ∧ (0 < len2 → ∀ g off sp, a2 = some ⟨g, off, sp⟩ → ¬ Mut vb mb ob g)) := Lib.hid fun L wx W0 vb mb ob hb hv => ⟨w2.below (blw hb hv.bel), fun hl g off sp e => by
    obtain ⟨b, off', e', hb', _⟩ := w2.2.2 hl
    rw [e'] at e
    cases e
    exact hv.far (Nat.lt_of_lt_of_le hb' hb.size)⟩
  clear w0 w1 w2 y0 e0 m0 hT
  go_enter Tryd.func10, Tryd.ntmps10
  go_wp2_with fail
  refine HH.out.mono ?_
  rintro e wa ⟨rfl, hba⟩
  have HBA := Lib.hid hba
  have HB2 := Lib.hid (HBO.out wa hba)
  clear hba HBO HH
  go_wp2_with fail
  refine HB2.out.mono ?_
  rintro e wb (⟨rfl, hbb⟩ | ⟨vb, mb, ob, rb, od, L, rfl, htw, hsz⟩)
  · have HE := Lib.hid (blw HBA.out hbb)
    clear hbb
    go_wp2
    go_ret
    exact ⟨rfl, HE.out⟩
  · have hta : txc.Tab wa.heap.size wa := (HT.out.on HBA.out).mono HBA.out.size
    have hv := htw.vat hsz
    have HTA := Lib.hid hta
    obtain ⟨a, e, L1, h1⟩ : ∃ a e L1, ofF L 3 a1 x2 = (a, e, L1) := ⟨_, _, _, rfl⟩
    obtain ⟨b, f, L2, h2⟩ : ∃ b f L2, ofF L1 4 a1 x2 = (b, f, L2) := ⟨_, _, _, rfl⟩
    obtain ⟨c, g, L3, h3⟩ : ∃ c g L3, ofF L2 6 a1 x2 = (c, g, L3) := ⟨_, _, _, rfl⟩
    obtain ⟨_, h4, h5, h6, h7⟩ := again_all hv.good h1 h2 h3
    obtain ⟨d1, d2⟩ := HD.out L wb wa vb mb ob HBA.out hv
    have HC1 := Lib.hid (hv.sign hta a1 hkey a2 len2 cap2 x2 d1 l2 hm2 d2 h1)
    have HF := Lib.hid (And.intro h2 (And.intro h3 (And.intro h4 (And.intro h5 (And.intro h6 h7)))))
    clear htw hsz hv hta d1 d2 h1 h2 h3 h4 h5 h6 h7 HB2
    go_wp2_with fail
    refine HC1.out.mono ?_
    rintro en w3 ⟨ob1, rfl, hv1⟩
    obtain ⟨d1, d2⟩ := HD.out L1 w3 wa vb mb ob1 HBA.out hv1
    have HC2 := Lib.hid (hv1.seal HTA.out a1 hkey a2 len2 cap2 x2 d1 l2 hm2 d2 HF.out.1)
    clear hv1 d1 d2 HC1
    go_wp2_with fail
    refine HC2.out.mono ?_
    rintro en w4 ⟨ob2, rfl, hv1⟩
    obtain ⟨d1, d2⟩ := HD.out L2 w4 wa vb mb ob2 HBA.out hv1
    have HC3 := Lib.hid (hv1.kdf HTA.out a1 hkey a2 len2 cap2 x2 d1 l2 hm2 d2 HF.out.2.1)
    clear hv1 d1 d2 HC2
    go_wp2_with fail
    refine HC3.out.mono ?_
    rintro en w5 ⟨ob3, rfl, hv1⟩
    obtain ⟨A9, c9, x9⟩ := Vlt.box hv1.vlt
    have HLEN := Lib.hid (len_cell vb L3.length c9 A9 w5 x9)
    obtain ⟨d1, d2⟩ := HD.out L3 w5 wa vb mb ob3 HBA.out hv1
    have HC4 := Lib.hid (hv1.sign HTA.out a1 hkey a2 len2 cap2 x2 d1 l2 hm2 d2 HF.out.2.2.1)
    clear hv1 d1 d2 HC3 x9
    go_wp2_with fail
    refine HLEN.out.mono ?_
    rintro en w6 ⟨rfl, rfl⟩
    clear HLEN
    go_wp2_with fail
    refine HC4.out.mono ?_
    rintro en w7 ⟨ob4, rfl, hv1⟩
    obtain ⟨d1, d2⟩ := HD.out L3 w7 wa vb mb ob4 HBA.out hv1
    have HC5 := Lib.hid (hv1.seal HTA.out a1 hkey a2 len2 cap2 x2 d1 l2 hm2 d2 HF.out.2.2.2.1)
    clear hv1 d1 d2 HC4
    go_wp2_with fail
    refine HC5.out.mono ?_
    rintro en w8 ⟨ob5, rfl, hv1⟩
    obtain ⟨d1, d2⟩ := HD.out L3 w8 wa vb mb ob5 HBA.out hv1
    have HC6 := Lib.hid (hv1.kdf HTA.out a1 hkey a2 len2 cap2 x2 d1 l2 hm2 d2 HF.out.2.2.2.2.1)
    clear hv1 d1 d2 HC5
    go_wp2_with fail
    refine HC6.out.mono ?_
    rintro en w9 ⟨ob6, rfl, hv1⟩
    obtain ⟨A9, c9, x9⟩ := Vlt.box hv1.vlt
    have HLEN := Lib.hid (len_cell vb L3.length c9 A9 w9 x9)
    have HE := Lib.hid (blw HBA.out hv1.bel)
    have h7 := HF.out.2.2.2.2.2
    clear hv1 HC6 x9 HF
    have ha : (a != a) = false := by simp
    have hb : (b != b) = false := by simp
    have hc : (c != c) = false := by simp
    have he : (e != e) = false := by simp
    have hf : (f != f) = false := by simp
    have hg : (g != g) = false := by simp
    by_cases he0 : e = 0
    · by_cases hf0 : f = 0
      · by_cases hg0 : g = 0
        · obtain ⟨n1, n2, n3⟩ := h7 he0 hf0 hg0
          have n1' : (a != b) = true := by simp [n1]
          have n2' : (b != c) = true := by simp [n2]
          have n3' : (a != c) = true := by simp [n3]
          subst he0 hf0 hg0
          clear h7
          go_wp2_with (go_at_call 18; refine HLEN.out.mono ?_; rintro en w10 ⟨rfl, rfl⟩)
          go_ret
          exact ⟨by simp, HE.out⟩
        · have hn : (g != 0) = true := by simp [hg0]
          subst he0 hf0
          clear h7
          go_wp2_with (go_at_call 18; refine HLEN.out.mono ?_; rintro en w10 ⟨rfl, rfl⟩)
          go_ret
          exact ⟨by simp, HE.out⟩
      · have hn : (f != 0) = true := by simp [hf0]
        subst he0
        clear h7
        go_wp2_with (go_at_call 18; refine HLEN.out.mono ?_; rintro en w10 ⟨rfl, rfl⟩)
        go_ret
        exact ⟨by simp, HE.out⟩
    · have hn : (e != 0) = true := by simp [he0]
      clear h7
      go_wp2_with (go_at_call 18; refine HLEN.out.mono ?_; rintro en w10 ⟨rfl, rfl⟩)
      go_ret
      exact ⟨by simp, HE.out⟩

theorem reads (os : Os) {H : Type} (enc : TypeId × Value → H) : ∃ places, DataW.whole enc Tryd.prog ((txc.laidWorld os).forCall (fun _ _ => 0) ⟨#[], #[.slice none 0 0, .int .i64 0, .slice none 0 0], []⟩).memory Tryd.f10.params.toList Rows.cryptoAgainSpec.vars false (#[.slice none 0 0, .int .i64 0, .slice none 0 0] : Array Value).toList 8 = some ([.nil, .lit (.int .i64 0), .nil], [], places) :=
  ⟨[], by kernel_rfl⟩
set_option maxRecDepth 100000 in
theorem lifted (os : Os) (started : os.Started) (H : Type) (enc : TypeId × Value → H) (F : Stop.Interp) :
    ReturnsInHanded {} Tryd.checked os 10 .any ((OpenSpec.ofChange Rows.cryptoAgainSpec).preRow enc Tryd.prog Tryd.f10 Rows.cryptoAgainRow.domain false Rows.cryptoAgainRow.laid) (((OpenSpec.ofChange Rows.cryptoAgainSpec).at F).post enc Tryd.prog Tryd.f10 false true false false) := by
  obtain ⟨places, hx⟩ := reads os enc
  refine returnsInHanded_of_row (C := Tryd.checked) (s := (OpenSpec.ofChange Rows.cryptoAgainSpec)) own started (by kernel_rfl) Tryd.func10
    (witness_row_at (enc := enc) (C := Tryd.checked) false (txc.laidWorld os) #[.slice none 0 0, .int .i64 0, .slice none 0 0] rfl (by kernel_rfl) (by kernel_rfl) (by kernel_rfl)
      (OpenSpec.preRow_of_cond 8 hx (by kernel_rfl) (fun k hk => by cases hk) (by kernel_rfl) (txc.laid_met os _))) ?_
  intro W base args ds gs before hval0 hW hcnd hcond hsz0 hL _ _
  have hval : ∀ (j : Nat) t v, Tryd.f10.params[j]? = some t → args[j]? = some v → Value.okWide Tryd.prog W .any base t v := hval0
  have hW' := hW
  obtain ⟨p, q, hA0, hV, rfl, hfz, hnd⟩ := hW
  have hA : DataW.TrodAll enc Tryd.prog W 0 (fun _ => true) true Tryd.f10.params.toList args.toList ds p := hA0
  have hsz : (DataW.weightsEach Tryd.prog (Tryd.f10.params.toList ++ (OpenSpec.ofChange Rows.cryptoAgainSpec).bare.plain.varTypes Tryd.prog) (ds ++ gs)).all (· ≤ reachBytes) = true := hsz0
  rw [Tryd.params10] at hA hval hsz
  obtain ⟨v0, vs0, d0, ds0, p0, q0, hargs, rfl, rfl, h0, r_0⟩ := trodAll_cons hA
  obtain ⟨v1, vs1, d1, ds1, p1, q1, rfl, rfl, rfl, h1, r_1⟩ := trodAll_cons r_0
  obtain ⟨v2, vs2, d2, ds2, p2, q2, rfl, rfl, rfl, h2, r_2⟩ := trodAll_cons r_1
  obtain ⟨rfl, rfl, rfl⟩ := trodAll_nil r_2
  obtain rfl : args = #[v0, v1, v2] := by cases args; simp_all
  obtain ⟨rfl, rfl⟩ := trodVars_none hV
  obtain ⟨a0, len0, cap0, rfl⟩ := okWide_slice Tryd.underlying22 (hval 0 22 v0 rfl rfl)
  have k0 := h0
  have lt0 : ∀ x ∈ p0, x.block < W.heap.size := by obtain ⟨m, hm⟩ := k0; exact DataW.trod_lt m _ _ _ hm
  obtain ⟨x0, e0, w0, l0, m0, z0⟩ := tmc.open_tms ({ U := _, f0 := _, f1 := _, f2 := _, f3 := _, hT := Tryd.underlying26, hone := by kernel_rfl, hC := by kernel_rfl, e0 := Tryd.underlying23, e1 := Tryd.underlying2, e2 := Tryd.underlying24, eU := Tryd.underlying5, cU := by kernel_rfl, bU := by kernel_rfl, e3 := Tryd.underlying22 }) Tryd.underlying22 h0
  have y0 := z0 (tmc.each_fit hsz (j := 0) rfl rfl)
  obtain ⟨a1, rfl, rfl, rfl, w1⟩ := open_int Tryd.underlying3 (hval 1 3 v1 rfl rfl) h1
  obtain ⟨a2, len2, cap2, rfl⟩ := okWide_slice Tryd.underlying24 (hval 2 24 v2 rfl rfl)
  have k2 := h2
  have lt2 : ∀ x ∈ p2, x.block < W.heap.size := by obtain ⟨m, hm⟩ := k2; exact DataW.trod_lt m _ _ _ hm
  obtain ⟨x2, w2, l2, m2, s2⟩ := tlvc.open_bys Tryd.underlying24 Tryd.underlying5 (by kernel_rfl) h2
  have r2 := tlvc.spots_reach hsz s2 (j := 2) rfl rfl Tryd.underlying24 (of_decide_eq_true (by kernel_rfl))
  clear hA0 hval0
  have hT : txc.Tabs W := txc.tabs_of hL
  refine (walk a0 len0 cap0 x0 a1 a2 len2 cap2 x2 W e0 w0 l0 m0 y0 w1 w2 l2 r2 hT).mono fun e W' ⟨he, bel⟩ => ?_
  subst he
  exact ⟨_, rfl, _, _, _, [], _, [], hW', trodAll_mk1 (shut_bool Tryd.underlying4 _), (trodAll_cons_mk (Below.trod laidOut (by kernel_rfl) (of_decide_eq_true (by kernel_rfl)) k0 bel lt0) (trodAll_cons_mk (shut_int Tryd.underlying3 w1) (trodAll_cons_mk (Below.trod laidOut (by kernel_rfl) (of_decide_eq_true (by kernel_rfl)) k2 bel lt2) trodAll_mk0))), rfl, bel.frame _, fun h => by cases h⟩

theorem over : Rows.cryptoAgainRow.holds Tryd.pinned (OpenSpec.ofChange Rows.cryptoAgainSpec) :=
  OpenClaim.holds_of_cond 10 Tryd.f10 rfl rfl rfl rfl rfl rfl rfl ⟨rfl, rfl, rfl, rfl, rfl⟩ rfl rfl rfl rfl rfl (by kernel_rfl) Tryd.func10 (by kernel_rfl)
    (of_decide_eq_true (by kernel_rfl)) (by unfold Func.isWrapper; first | (rw [if_pos (by decide +kernel)]; kernel_rfl) | (rw [if_neg (by decide +kernel)]; exact ⟨rfl, rfl⟩))
    (fun os started H enc _ F => by rw [OpenClaim.pre_eq_preRow]; exact lifted os started H enc F)

theorem plain (f : FuncId) (fn : Func) (hf : Tryd.pinned.checked.prog.funcNamed "warder/warderlaw07.CryptoAgain" = some f) (hfn : Tryd.pinned.checked.prog.funcs[f]? = some fn) :
    false = Tryd.pinned.checked.prog.looks [] ∧ ∀ (j : Nat) t, fn.params[j]? = some t → Tryd.pinned.checked.prog.wantsStandIn t = false := by
  obtain rfl : f = 10 := Option.some.inj ((show Tryd.prog.funcNamed "warder/warderlaw07.CryptoAgain" = some 10 by kernel_rfl).symm.trans hf) |>.symm
  obtain rfl : fn = Tryd.f10 := (Option.some.inj (Tryd.func10.symm.trans hfn)).symm
  refine ⟨by kernel_rfl, fun j t ht => ?_⟩
  rw [Tryd.params10] at ht
  match j, ht with
    | 0, ht => obtain rfl : t = 22 := (Option.some.inj ht).symm; exact (show Tryd.prog.wantsStandIn 22 = false by kernel_rfl)
    | 1, ht => obtain rfl : t = 3 := (Option.some.inj ht).symm; exact (show Tryd.prog.wantsStandIn 3 = false by kernel_rfl)
    | 2, ht => obtain rfl : t = 24 := (Option.some.inj ht).symm; exact (show Tryd.prog.wantsStandIn 24 = false by kernel_rfl)
    | j + 3, ht => simp at ht

theorem proved : Rows.CryptoAgainCardSaid :=
  Claim7.holds_tied_plain_at .later [] _ _ _ _ over (fun _ h => by cases h) (by kernel_rfl) (fun _ h => by cases h) cryptoAgain_row_tie rfl ⟨rfl, rfl⟩ (by kernel_rfl) rfl plain (by kernel_rfl)
#print axioms proved
end Go.Proofs.YtfmdmahlljbbmaaDoor.cryptoAgain
