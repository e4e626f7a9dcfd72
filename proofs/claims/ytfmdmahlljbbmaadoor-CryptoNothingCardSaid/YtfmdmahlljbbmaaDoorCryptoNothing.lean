/- The law CryptoNothing of warderlaw07 answers true for every list of terms, two handles and bytes, and leaves its arguments as they were; no condition. -/
import Derived.Test.YtfmdmahlljbbmaaDoorCards
import Derived.Test.YtfmdmahlljbbmaaDoorTie
import Derived.WalkKit
import Derived.ProofKit
import Derived.OpenShut
import Derived.ChangeOld
import Derived.Below
import Derived.SizedLaws
import Derived.Test.YtfmdmahlljbbmaaDoorTh
import Derived.Test.YtfmdmahlljbbmaaDoorVtTab
import Derived.Test.YtfmdmahlljbbmaaDoorCf
namespace Go.Proofs.YtfmdmahlljbbmaaDoor.cryptoNothing
open Go.ChangeShapes Go.WideShapes Go.ChangeAt Go.RowKit
set_option linter.unusedVariables false

theorem own : ownKnob Tryd.prog.godebug = none := by kernel_rfl
theorem laidOut : laidOutB Tryd.prog = true := by kernel_rfl

open Go.Proofs.YtfmdmahlljbbmaaDoor.tlvc Go.Proofs.YtfmdmahlljbbmaaDoor.tmc Go.Proofs.YtfmdmahlljbbmaaDoor.vtc

set_option maxRecDepth 100000 in
set_option maxHeartbeats 16000000 in
theorem walk (a0 : Option Addr) (len0 cap0 : Nat) (x0 : List tmc.Tm) (a1 : Int) (a2 : Int) (a3 : Option Addr) (len3 cap3 : Nat) (x3 : List Int) (w : World) (e0 : x0.length = len0) (w0 : tmc.Tms w a0 x0) (l0 : len0 ≤ cap0) (m0 : cap0 ≤ maxLen) (y0 : tmc.fitDs x0) (w1 : (Lit.int .i64 a1).wf = true) (w2 : (Lit.int .i64 a2).wf = true) (w3 : tlvc.Bys w a3 len3 x3) (l3 : len3 ≤ cap3) (r3 : cap3 ≤ 140737488351232) (hT : txc.Tabs w) :
    Calls Tryd.prog 11 #[.slice a0 len0 cap0, .int .i64 a1, .int .i64 a2, .slice a3 len3 cap3] w fun e w' => e = .returned (.bool true) ∧ Below w.heap.size w w' := by
  have h1 : I64 a1 := bounds_i64 w1
  have h2 : I64 a2 := bounds_i64 w2
  have hm3 : cap3 ≤ maxLen := by unfold maxLen; omega
  have HT := Lib.hid (show txc.Tab w.heap.size w from hT)
  have HH := Lib.hid (head7_any w hT)
  have HBO := Lib.hid fun (W : World) (hb : Below w.heap.size w W) => both_any a0 len0 cap0 x0 W e0 (tms_below w0 hb) l0 m0 ((hT.on hb).mono hb.size)
  have HD : Hid (∀ (L : List Tm) (wx : World) (W0 : World) (vb mb : Nat) (ob : Option Nat), Below w.heap.size w W0 → Vat W0 vb mb ob L wx → Bys wx a3 len3 x3 ∧ (0 < len3 → ∀ g off sp, a3 = some ⟨g, off, sp⟩ → ¬ Mut vb mb ob g)) := Lib.hid fun L wx W0 vb mb ob hb hv => ⟨w3.below (blw hb hv.bel), fun hl g off sp e => by
    obtain ⟨b, off', e', hb', _⟩ := w3.2.2 hl
    rw [e'] at e
    cases e
    exact hv.far (Nat.lt_of_lt_of_le hb' hb.size)⟩
  clear w0 w1 w2 w3 y0 e0 m0 hT
  go_enter Tryd.func11, Tryd.ntmps11
  go_wp2_with fail
  refine HH.out.mono ?_
  rintro e wa ⟨rfl, hba⟩
  have HBA := Lib.hid hba
  have HB2 := Lib.hid (HBO.out wa hba)
  clear hba HBO HH
  go_wp2_with fail
  refine HB2.out.mono ?_
  rintro e wb (⟨rfl, hbb⟩ | ⟨vb, mb, ob, rb, od, L, rfl, htw, hsz⟩)
  · have HE := Lib.hid (blw HBA.out hbb)
    clear hbb
    go_wp2
    go_ret
    exact ⟨rfl, HE.out⟩
  · have hta : txc.Tab wa.heap.size wa := (HT.out.on HBA.out).mono HBA.out.size
    have hv := htw.vat hsz
    have HTA := Lib.hid hta
    obtain ⟨T, hTT⟩ : ∃ T, (hand L a2).getD (.mk 0 0 [] []) = T := ⟨_, rfl⟩
    obtain ⟨is, his⟩ : ∃ b, (hand L a2).isSome = b := ⟨_, rfl⟩
    have hterm := term_hand a2 wb hv.vlt hv.sz
    rw [hTT, his] at hterm
    have hu : (openF L a1 a2).isSome = true → T.op = 4 := fun h => by
      cases ho : openF L a1 a2 with
      | none => rw [ho] at h; cases h
      | some x =>
        obtain ⟨m, d, ks, h4⟩ := open_op ho
        rw [← hTT, h4]
        rfl
    have hw : verifyF L a1 x3 a2 = true → T.op = 3 := fun h => by
      obtain ⟨m, d, ks, h4⟩ := verify_op h
      rw [← hTT, h4]
      rfl
    obtain ⟨u, hu2⟩ : ∃ b, (openF L a1 a2).isSome = b := ⟨_, rfl⟩
    obtain ⟨v, hv2⟩ : ∃ b, verifyF L a1 x3 a2 = b := ⟨_, rfl⟩
    rw [hu2] at hu
    rw [hv2] at hw
    obtain ⟨o, m, d, ks⟩ := T
    have hu : u = true → o = 4 := hu
    have hw : v = true → o = 3 := hw
    have HTERM := Lib.hid hterm
    have HV := Lib.hid hv
    have HOV := Lib.hid (And.intro hu2 hv2)
    clear htw hsz hv hta HB2 hterm hTT his hu2 hv2
    go_wp2_with fail
    refine HTERM.out.mono ?_
    rintro e w3 ⟨v1, rfl, ⟨y0, y1, y2, y3, rfl, hy⟩, hb3⟩
    obtain ⟨o5, m5, A5, la5, ca5, K5, lk5, ck5, rfl, rfl, rfl, rfl⟩ := hy.shape
    obtain rfl := (Value.int.inj (op_of hy)).2
    obtain ⟨W4, hW4, hb4, pb4⟩ := own_term (wt := w3) (.int .i64 o5) (.int .i64 m5) (.slice A5 la5 ca5) (.slice K5 lk5 ck5)
    have hv4 := HV.out.below (hb3.trans (hb4.mono hb3.size))
    have hop := open_any (hv4.ok HTA.out) a1 a2 h1 h2
    have hve := fun (w5 : World) (hb5 : Below W4.heap.size W4 w5) => verify_any ((hv4.below hb5).ok HTA.out) a1 a2 h1 h2 a3 len3 cap3 x3 (HD.out L w5 wa vb mb ob HBA.out (hv4.below hb5)).1
    rw [HOV.out.2] at hve
    have HOP := Lib.hid (show Calls Tryd.prog 39 #[.pointer (some ⟨vb, 0, none⟩), .int .i64 a1, .int .i64 a2] W4 fun e w' => ∃ A n c, e = .returned (.tuple #[.slice A n c, .bool u]) ∧ Below W4.heap.size W4 w' from hop.mono fun e w' ⟨A, n, c, k1, k2, k3, k4, k5, k6⟩ => ⟨A, n, c, by rw [k1, HOV.out.1], k6⟩)
    have HVE := Lib.hid hve
    have HPB := Lib.hid pb4
    have HBW := Lib.hid (blw HBA.out hv4.bel)
    have HW4 := Lib.hid hW4
    obtain ⟨bt, hbt⟩ : ∃ x, w3.heap.size = x := ⟨_, rfl⟩
    have HBT := Lib.hid hbt
    clear hy hb3 hb4 pb4 hv4 hop hve hW4 HTERM HV HOV
    go_wp2_with fail
    rw [HW4.out]
    clear hbt
    refine HOP.out.mono ?_
    rintro e w5 ⟨A6, n6, c6, rfl, hb5⟩
    obtain ⟨b0, b1, b2, b3⟩ := boxT hb5 HPB.out
    have HC := Lib.hid (HVE.out w5 hb5)
    have HB5 := Lib.hid (blw HBW.out hb5)
    rw [HBT.out] at b0 b1 b2 b3
    clear hb5 HVE HOP HW4 HPB HBT
    by_cases ho4 : o5 = 4
    · subst ho4
      have hvf : v = false := by
        cases v with
        | false => rfl
        | true => have := hw rfl; omega
      subst hvf
      clear hu hw
      go_wp2_with (go_at_call 40; refine HC.out.mono ?_; rintro e w6 ⟨rfl, hb6⟩; have HE := Lib.hid (blw HB5.out hb6); clear hb6)
      go_ret
      exact ⟨rfl, HE.out⟩
    · have huf : u = false := by
        cases u with
        | false => rfl
        | true => exact absurd (hu rfl) ho4
      subst huf
      have hn4 : (o5 == 4) = false := by simp [ho4]
      by_cases ho3 : o5 = 3
      · subst ho3
        clear hu hw
        go_wp2
        go_ret
        exact ⟨rfl, HB5.out⟩
      · have hn3 : (o5 == 3) = false := by simp [ho3]
        have hvf : v = false := by
          cases v with
          | false => rfl
          | true => exact absurd (hw rfl) ho3
        subst hvf
        clear hu hw
        go_wp2_with (go_at_call 40; refine HC.out.mono ?_; rintro e w6 ⟨rfl, hb6⟩; have HE := Lib.hid (blw HB5.out hb6); clear hb6)
        go_ret
        exact ⟨rfl, HE.out⟩

theorem reads (os : Os) {H : Type} (enc : TypeId × Value → H) : ∃ places, DataW.whole enc Tryd.prog ((txc.laidWorld os).forCall (fun _ _ => 0) ⟨#[], #[.slice none 0 0, .int .i64 0, .int .i64 0, .slice none 0 0], []⟩).memory Tryd.f11.params.toList Rows.cryptoNothingSpec.vars false (#[.slice none 0 0, .int .i64 0, .int .i64 0, .slice none 0 0] : Array Value).toList 8 = some ([.nil, .lit (.int .i64 0), .lit (.int .i64 0), .nil], [], places) :=
  ⟨[], by kernel_rfl⟩
set_option maxRecDepth 100000 in
theorem lifted (os : Os) (started : os.Started) (H : Type) (enc : TypeId × Value → H) (F : Stop.Interp) :
    ReturnsInHanded {} Tryd.checked os 11 .any ((OpenSpec.ofChange Rows.cryptoNothingSpec).preRow enc Tryd.prog Tryd.f11 Rows.cryptoNothingRow.domain false Rows.cryptoNothingRow.laid) (((OpenSpec.ofChange Rows.cryptoNothingSpec).at F).post enc Tryd.prog Tryd.f11 false true false false) := by
  obtain ⟨places, hx⟩ := reads os enc
  refine returnsInHanded_of_row (C := Tryd.checked) (s := (OpenSpec.ofChange Rows.cryptoNothingSpec)) own started (by kernel_rfl) Tryd.func11
    (witness_row_at (enc := enc) (C := Tryd.checked) false (txc.laidWorld os) #[.slice none 0 0, .int .i64 0, .int .i64 0, .slice none 0 0] rfl (by kernel_rfl) (by kernel_rfl) (by kernel_rfl)
      (OpenSpec.preRow_of_cond 8 hx (by kernel_rfl) (fun k hk => by cases hk) (by kernel_rfl) (txc.laid_met os _))) ?_
  intro W base args ds gs before hval0 hW hcnd hcond hsz0 hL _ _
  have hval : ∀ (j : Nat) t v, Tryd.f11.params[j]? = some t → args[j]? = some v → Value.okWide Tryd.prog W .any base t v := hval0
  have hW' := hW
  obtain ⟨p, q, hA0, hV, rfl, hfz, hnd⟩ := hW
  have hA : DataW.TrodAll enc Tryd.prog W 0 (fun _ => true) true Tryd.f11.params.toList args.toList ds p := hA0
  have hsz : (DataW.weightsEach Tryd.prog (Tryd.f11.params.toList ++ (OpenSpec.ofChange Rows.cryptoNothingSpec).bare.plain.varTypes Tryd.prog) (ds ++ gs)).all (· ≤ reachBytes) = true := hsz0
  rw [Tryd.params11] at hA hval hsz
  obtain ⟨v0, vs0, d0, ds0, p0, q0, hargs, rfl, rfl, h0, r_0⟩ := trodAll_cons hA
  obtain ⟨v1, vs1, d1, ds1, p1, q1, rfl, rfl, rfl, h1, r_1⟩ := trodAll_cons r_0
  obtain ⟨v2, vs2, d2, ds2, p2, q2, rfl, rfl, rfl, h2, r_2⟩ := trodAll_cons r_1
  obtain ⟨v3, vs3, d3, ds3, p3, q3, rfl, rfl, rfl, h3, r_3⟩ := trodAll_cons r_2
  obtain ⟨rfl, rfl, rfl⟩ := trodAll_nil r_3
  obtain rfl : args = #[v0, v1, v2, v3] := by cases args; simp_all
  obtain ⟨rfl, rfl⟩ := trodVars_none hV
  obtain ⟨a0, len0, cap0, rfl⟩ := okWide_slice Tryd.underlying22 (hval 0 22 v0 rfl rfl)
  have k0 := h0
  have lt0 : ∀ x ∈ p0, x.block < W.heap.size := by obtain ⟨m, hm⟩ := k0; exact DataW.trod_lt m _ _ _ hm
  obtain ⟨x0, e0, w0, l0, m0, z0⟩ := tmc.open_tms ({ U := _, f0 := _, f1 := _, f2 := _, f3 := _, hT := Tryd.underlying26, hone := by kernel_rfl, hC := by kernel_rfl, e0 := Tryd.underlying23, e1 := Tryd.underlying2, e2 := Tryd.underlying24, eU := Tryd.underlying5, cU := by kernel_rfl, bU := by kernel_rfl, e3 := Tryd.underlying22 }) Tryd.underlying22 h0
  have y0 := z0 (tmc.each_fit hsz (j := 0) rfl rfl)
  obtain ⟨a1, rfl, rfl, rfl, w1⟩ := open_int Tryd.underlying3 (hval 1 3 v1 rfl rfl) h1
  obtain ⟨a2, rfl, rfl, rfl, w2⟩ := open_int Tryd.underlying3 (hval 2 3 v2 rfl rfl) h2
  obtain ⟨a3, len3, cap3, rfl⟩ := okWide_slice Tryd.underlying24 (hval 3 24 v3 rfl rfl)
  have k3 := h3
  have lt3 : ∀ x ∈ p3, x.block < W.heap.size := by obtain ⟨m, hm⟩ := k3; exact DataW.trod_lt m _ _ _ hm
  obtain ⟨x3, w3, l3, m3, s3⟩ := tlvc.open_bys Tryd.underlying24 Tryd.underlying5 (by kernel_rfl) h3
  have r3 := tlvc.spots_reach hsz s3 (j := 3) rfl rfl Tryd.underlying24 (of_decide_eq_true (by kernel_rfl))
  clear hA0 hval0
  have hT : txc.Tabs W := txc.tabs_of hL
  refine (walk a0 len0 cap0 x0 a1 a2 a3 len3 cap3 x3 W e0 w0 l0 m0 y0 w1 w2 w3 l3 r3 hT).mono fun e W' ⟨he, bel⟩ => ?_
  subst he
  exact ⟨_, rfl, _, _, _, [], _, [], hW', trodAll_mk1 (shut_bool Tryd.underlying4 _), (trodAll_cons_mk (Below.trod laidOut (by kernel_rfl) (of_decide_eq_true (by kernel_rfl)) k0 bel lt0) (trodAll_cons_mk (shut_int Tryd.underlying3 w1) (trodAll_cons_mk (shut_int Tryd.underlying3 w2) (trodAll_cons_mk (Below.trod laidOut (by kernel_rfl) (of_decide_eq_true (by kernel_rfl)) k3 bel lt3) trodAll_mk0)))), rfl, bel.frame _, fun h => by cases h⟩

theorem over : Rows.cryptoNothingRow.holds Tryd.pinned (OpenSpec.ofChange Rows.cryptoNothingSpec) :=
  OpenClaim.holds_of_cond 11 Tryd.f11 rfl rfl rfl rfl rfl rfl rfl ⟨rfl, rfl, rfl, rfl, rfl⟩ rfl rfl rfl rfl rfl (by kernel_rfl) Tryd.func11 (by kernel_rfl)
    (of_decide_eq_true (by kernel_rfl)) (by unfold Func.isWrapper; first | (rw [if_pos (by decide +kernel)]; kernel_rfl) | (rw [if_neg (by decide +kernel)]; exact ⟨rfl, rfl⟩))
    (fun os started H enc _ F => by rw [OpenClaim.pre_eq_preRow]; exact lifted os started H enc F)

theorem plain (f : FuncId) (fn : Func) (hf : Tryd.pinned.checked.prog.funcNamed "warder/warderlaw07.CryptoNothing" = some f) (hfn : Tryd.pinned.checked.prog.funcs[f]? = some fn) :
    false = Tryd.pinned.checked.prog.looks [] ∧ ∀ (j : Nat) t, fn.params[j]? = some t → Tryd.pinned.checked.prog.wantsStandIn t = false := by
  obtain rfl : f = 11 := Option.some.inj ((show Tryd.prog.funcNamed "warder/warderlaw07.CryptoNothing" = some 11 by kernel_rfl).symm.trans hf) |>.symm
  obtain rfl : fn = Tryd.f11 := (Option.some.inj (Tryd.func11.symm.trans hfn)).symm
  refine ⟨by kernel_rfl, fun j t ht => ?_⟩
  rw [Tryd.params11] at ht
  match j, ht with
    | 0, ht => obtain rfl : t = 22 := (Option.some.inj ht).symm; exact (show Tryd.prog.wantsStandIn 22 = false by kernel_rfl)
    | 1, ht => obtain rfl : t = 3 := (Option.some.inj ht).symm; exact (show Tryd.prog.wantsStandIn 3 = false by kernel_rfl)
    | 2, ht => obtain rfl : t = 3 := (Option.some.inj ht).symm; exact (show Tryd.prog.wantsStandIn 3 = false by kernel_rfl)
    | 3, ht => obtain rfl : t = 24 := (Option.some.inj ht).symm; exact (show Tryd.prog.wantsStandIn 24 = false by kernel_rfl)
    | j + 4, ht => simp at ht

theorem proved : Rows.CryptoNothingCardSaid :=
  Claim7.holds_tied_plain_at .later [] _ _ _ _ over (fun _ h => by cases h) (by kernel_rfl) (fun _ h => by cases h) cryptoNothing_row_tie rfl ⟨rfl, rfl⟩ (by kernel_rfl) rfl plain (by kernel_rfl)
#print axioms proved
end Go.Proofs.YtfmdmahlljbbmaaDoor.cryptoNothing
