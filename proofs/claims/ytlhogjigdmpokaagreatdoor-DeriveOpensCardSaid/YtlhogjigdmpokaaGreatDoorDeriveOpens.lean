/- The law DeriveOpens of warderlaw08 answers true for every list of terms and any four handles, and leaves its arguments as they were; no condition. -/
import Derived.Test.YtlhogjigdmpokaaGreatDoorCards
import Derived.Test.YtlhogjigdmpokaaGreatDoorTie
import Derived.WalkKit
import Derived.ProofKit
import Derived.OpenShut
import Derived.ChangeOld
import Derived.Below
import Derived.SizedLaws
import Derived.Test.YtlhogjigdmpokaaGreatDoorTh
import Derived.Test.YtlhogjigdmpokaaGreatDoorVtTab
import Derived.Test.YtlhogjigdmpokaaGreatDoorDq
import Derived.Test.YtlhogjigdmpokaaGreatDoorGa
namespace Go.Proofs.YtlhogjigdmpokaaGreatDoor.deriveOpens
open Go.ChangeShapes Go.WideShapes Go.ChangeAt Go.RowKit
set_option linter.unusedVariables false

theorem own : ownKnob Tryz.prog.godebug = none := by kernel_rfl
theorem laidOut : laidOutB Tryz.prog = true := by kernel_rfl

open Go.Proofs.YtlhogjigdmpokaaGreatDoor.tlvc Go.Proofs.YtlhogjigdmpokaaGreatDoor.tmc Go.Proofs.YtlhogjigdmpokaaGreatDoor.vtc

set_option maxRecDepth 100000 in
set_option maxHeartbeats 16000000 in
theorem walk (a0 : Option Addr) (len0 cap0 : Nat) (x0 : List tmc.Tm) (a1 : Int) (a2 : Int) (a3 : Int) (a4 : Int) (w : World) (e0 : x0.length = len0) (w0 : tmc.Tms w a0 x0) (l0 : len0 ≤ cap0) (m0 : cap0 ≤ maxLen) (y0 : tmc.fitDs x0) (w1 : (Lit.int .i64 a1).wf = true) (w2 : (Lit.int .i64 a2).wf = true) (w3 : (Lit.int .i64 a3).wf = true) (w4 : (Lit.int .i64 a4).wf = true) (hT : txc.Tabs w) :
    Calls Tryz.prog 6 #[.slice a0 len0 cap0, .int .i64 a1, .int .i64 a2, .int .i64 a3, .int .i64 a4] w fun e w' => e = .returned (.bool true) ∧ Below w.heap.size w w' := by
  have ha1 : I64 a1 := bounds_i64 w1
  have ha2 : I64 a2 := bounds_i64 w2
  have ha3 : I64 a3 := bounds_i64 w3
  have ha4 : I64 a4 := bounds_i64 w4
  have HT := Lib.hid (show txc.Tab w.heap.size w from hT)
  have HH := Lib.hid (head8_any w hT)
  have HBO := Lib.hid fun (W : World) (hb : Below w.heap.size w W) => both_any a0 len0 cap0 x0 W e0 (tms_below w0 hb) l0 m0 ((hT.on hb).mono hb.size)
  clear w0 w1 w2 w3 w4 y0 e0 m0 hT
  go_enter Tryz.func6, Tryz.ntmps6
  go_wp2_with fail
  refine HH.out.mono ?_
  rintro e wa ⟨rfl, hba⟩
  have HBA := Lib.hid hba
  have HB2 := Lib.hid (HBO.out wa hba)
  clear hba HBO HH
  go_wp2_with fail
  refine HB2.out.mono ?_
  rintro e wb (⟨rfl, hbb⟩ | ⟨vb, mb, ob, rb, od, L, rfl, htw, hsz⟩)
  · have HE := Lib.hid (blw HBA.out hbb)
    clear hbb
    go_wp2
    go_ret
    exact ⟨rfl, HE.out⟩
  · have hta : txc.Tab wa.heap.size wa := (HT.out.on HBA.out).mono HBA.out.size
    have hv := htw.vat hsz
    have HTA := Lib.hid hta
    have HV := Lib.hid hv
    have HE := Lib.hid (blw HBA.out hv.bel)
    clear htw hsz hv hta HB2
    have HTM := Lib.hid (HV.out.term a2)
    go_wp2_with fail
    refine HTM.out.mono ?_
    rintro e w3 ⟨t, t0, t1, tA, tla, tca, tK, tlk, tck, rfl, _, _, hb3⟩
    have HB3 := Lib.hid hb3
    clear hb3 HTM
    obtain ⟨bq, hbq⟩ : ∃ x, decide (0 ≤ a2 ∧ a2 < (L.length : Int)) = x := ⟨_, rfl⟩
    rw [hbq]
    have HBQ := Lib.hid hbq
    clear hbq
    cases bq
    · go_wp2_with fail
      go_ret
      exact ⟨rfl, blw HE.out (HB3.out.trans ((below_new _ _).mono HB3.out.size))⟩
    · go_upto_region 8 with fail
      have hb4 := below_new w3 (.cells #[.int .i64 t0, .int .i64 t1, .slice tA tla tca, .slice tK tlk tck] 43)
      obtain ⟨W4, hW4⟩ : ∃ x, w3.alloc (.cells #[.int .i64 t0, .int .i64 t1, .slice tA tla tca, .slice tK tlk tck] 43) = x := ⟨_, rfl⟩
      rw [hW4] at hb4 ⊢
      obtain ⟨n, hn⟩ : ∃ k : Nat, a2 = (k : Int) := ⟨a2.toNat, by have := of_decide_eq_true HBQ.out; omega⟩
      subst hn
      have hnL : n < L.length := by have := of_decide_eq_true HBQ.out; omega
      have hL := HV.out.vlt.len
      have HMN := Lib.hid fun (W : World) => mention_new (n : Int) W (by omega)
      have HV4 := Lib.hid (HV.out.below (blw HB3.out hb4))
      have HNL := Lib.hid hnL
      clear hb4 hW4 hnL hL
      go_wp2_with fail
      refine (HMN.out _).mono ?_
      rintro e w5 ⟨A5, c5, rfl, y5, ⟨l5, m5⟩, b5, f5⟩
      obtain ⟨s, es, L1, h1⟩ : ∃ a e L1, ofF L 4 a1 (menF (n : Int)) = (a, e, L1) := ⟨_, _, _, rfl⟩
      have HS := Lib.hid ((HV4.out.below b5).seal HTA.out a1 ha1 A5 10 c5 (menF (n : Int)) y5 l5 m5 (fun _ g off sp e => HV4.out.near (f5 g off sp e)) h1)
      have hg1 := of_good HV.out.good h1
      have HF1 := Lib.hid (And.intro h1 hg1)
      clear y5 l5 m5 b5 f5 h1 hg1 HMN
      go_wp2_with fail
      refine HS.out.mono ?_
      rintro e w6 ⟨ob6, rfl, hv6⟩
      have HV6 := Lib.hid hv6
      clear hv6 HS
      go_upto_region 9 with fail
      go_cut [65] from 49 (fun s65 wx => s65 = .bool false ∧ Hid (Below w6.heap.size w6 wx))
      case first =>
        by_cases hes : es = 0
        · subst hes
          by_cases hsn : (n : Int) < s
          · have hm := opens_seal HV.out.good HNL.out HF1.out.1 hsn
            have hb7 := below_new w6 (.cells #[.int .i64 a1, .int .i64 s] 3)
            have hq7 := heap_new_ w6 (.cells #[.int .i64 a1, .int .i64 s] 3)
            have hi7 : Ins (w6.alloc (.cells #[.int .i64 a1, .int .i64 s] 3)) (some ⟨w6.heap.size, 0, none⟩) 2 [a1, s] := (InsG.two (K := fun _ => .other) hq7 ha1 (of_i64 HV.out.good HF1.out.1) rfl).ins
            have HC := Lib.hid ((HV6.out.below hb7).closure HTA.out (some ⟨w6.heap.size, 0, none⟩) 2 2 [a1, s] hi7 (Nat.le_refl _) (by unfold maxLen; decide))
            have HM := Lib.hid (And.intro (decide_eq_true hm) hb7)
            clear hm hb7 hq7 hi7
            go_wp2_with fail
            refine HC.out.mono ?_
            rintro e w8 ⟨A8, c8, rfl, i8, ⟨l8, m8⟩, b8, _⟩
            have hh := has_any A8 _ c8 _ (n : Int) w8 i8 l8 m8
            rw [HM.out.1] at hh
            have HHA := Lib.hid hh
            have HB8 := Lib.hid (blw HM.out.2 b8)
            clear hh i8 l8 m8 b8 HC
            go_wp2_with fail
            refine HHA.out.mono ?_
            rintro e w9 ⟨rfl, hb9⟩
            have HB9 := Lib.hid (blw HB8.out hb9)
            clear hb9 HHA
            go_wp2_with fail
            go_meet
            exact ⟨rfl, HB9⟩
          · have hd : decide ((n : Int) < s) = false := decide_eq_false hsn
            have HD := Lib.hid (Below.refl w6.heap.size w6)
            go_wp2_with fail
            go_meet
            exact ⟨by simp, HD⟩
        · have hd : (es == 0) = false := by rw [beq_eq_false_iff_ne]; exact hes
          have HD := Lib.hid (Below.refl w6.heap.size w6)
          go_wp2_with fail
          go_meet
          exact ⟨by simp, HD⟩
      case rest =>
        obtain ⟨rfl, HW⟩ := hcut
        obtain ⟨p, e2, L2, h2⟩ : ∃ a e L', ofF L1 7 a3 [] = (a, e, L') := ⟨_, _, _, rfl⟩
        have hv7 := HV6.out.below HW.out
        have HX := Lib.hid (hv7.exp HTA.out a3 ha3 h2)
        have hpi := of_i64 HV6.out.good h2
        have HF2 := Lib.hid (And.intro h2 hpi)
        clear hv7 h2 hpi
        go_wp2_with fail
        refine HX.out.mono ?_
        rintro e w8 ⟨ob8, rfl, hv8⟩
        obtain ⟨q, f, L3, h3⟩ : ∃ a e L', powL L2 p a4 = (a, e, L') := ⟨_, _, _, rfl⟩
        have HP := Lib.hid (hv8.pow HTA.out p a4 HF2.out.2 ha4 h3)
        have HF3 := Lib.hid (And.intro h3 hv8.good)
        clear hv8 h3 HX
        go_wp2_with fail
        refine HP.out.mono ?_
        rintro e w9 ⟨ob9, rfl, hv9⟩
        have HV9 := Lib.hid hv9
        have HE9 := Lib.hid (blw HBA.out hv9.bel)
        clear hv9 HP
        by_cases he2 : e2 = 0
        · subst he2
          by_cases hf : f = 0
          · subst hf
            obtain ⟨xt, _, _, hpx, _, _⟩ := of_ok HV6.out.good HF2.out.1
            have hm := opens_pow HF3.out.2 hpx HF3.out.1
            have hb7 := below_new w9 (.cells #[.int .i64 p, .int .i64 a4] 3)
            have hq7 := heap_new_ w9 (.cells #[.int .i64 p, .int .i64 a4] 3)
            have hi7 : Ins (w9.alloc (.cells #[.int .i64 p, .int .i64 a4] 3)) (some ⟨w9.heap.size, 0, none⟩) 2 [p, a4] := (InsG.two (K := fun _ => .other) hq7 HF2.out.2 ha4 rfl).ins
            have HC := Lib.hid ((HV9.out.below hb7).closure HTA.out (some ⟨w9.heap.size, 0, none⟩) 2 2 [p, a4] hi7 (Nat.le_refl _) (by unfold maxLen; decide))
            have HM := Lib.hid (And.intro (decide_eq_true hm) hb7)
            clear hm hb7 hq7 hi7 hpx
            go_wp2_with fail
            refine HC.out.mono ?_
            rintro e w10 ⟨A8, c8, rfl, i8, ⟨l8, m8⟩, b8, _⟩
            have hh := has_any A8 _ c8 _ q w10 i8 l8 m8
            rw [HM.out.1] at hh
            have HHA := Lib.hid hh
            have HB8 := Lib.hid (blw HM.out.2 b8)
            clear hh i8 l8 m8 b8 HC
            go_wp2_with fail
            refine HHA.out.mono ?_
            rintro e w11 ⟨rfl, hb9⟩
            have HB9 := Lib.hid (blw HE9.out (blw HB8.out hb9))
            clear hb9 HHA
            go_wp2_with fail
            go_ret
            exact ⟨rfl, HB9.out⟩
          · have hd : (f == 0) = false := by rw [beq_eq_false_iff_ne]; exact hf
            have hd2 : (f != 0) = true := by simp [hf]
            go_wp2_with fail
            go_ret
            exact ⟨by simp, HE9.out⟩
        · have hd : (e2 == 0) = false := by rw [beq_eq_false_iff_ne]; exact he2
          have hd2 : (e2 != 0) = true := by simp [he2]
          go_wp2_with fail
          go_ret
          exact ⟨by simp, HE9.out⟩

theorem reads (os : Os) {H : Type} (enc : TypeId × Value → H) : ∃ places, DataW.whole enc Tryz.prog ((txc.laidWorld os).forCall (fun _ _ => 0) ⟨#[], #[.slice none 0 0, .int .i64 0, .int .i64 0, .int .i64 0, .int .i64 0], []⟩).memory Tryz.f6.params.toList Rows.deriveOpensSpec.vars false (#[.slice none 0 0, .int .i64 0, .int .i64 0, .int .i64 0, .int .i64 0] : Array Value).toList 8 = some ([.nil, .lit (.int .i64 0), .lit (.int .i64 0), .lit (.int .i64 0), .lit (.int .i64 0)], [], places) :=
  ⟨[], by kernel_rfl⟩
set_option maxRecDepth 100000 in
theorem lifted (os : Os) (started : os.Started) (H : Type) (enc : TypeId × Value → H) (F : Stop.Interp) :
    ReturnsInHanded {} Tryz.checked os 6 .any ((OpenSpec.ofChange Rows.deriveOpensSpec).preRow enc Tryz.prog Tryz.f6 Rows.deriveOpensRow.domain false Rows.deriveOpensRow.laid) (((OpenSpec.ofChange Rows.deriveOpensSpec).at F).post enc Tryz.prog Tryz.f6 false true false false) := by
  obtain ⟨places, hx⟩ := reads os enc
  refine returnsInHanded_of_row (C := Tryz.checked) (s := (OpenSpec.ofChange Rows.deriveOpensSpec)) own started (by kernel_rfl) Tryz.func6
    (witness_row_at (enc := enc) (C := Tryz.checked) false (txc.laidWorld os) #[.slice none 0 0, .int .i64 0, .int .i64 0, .int .i64 0, .int .i64 0] rfl (by kernel_rfl) (by kernel_rfl) (by kernel_rfl)
      (OpenSpec.preRow_of_cond 8 hx (by kernel_rfl) (fun k hk => by cases hk) (by kernel_rfl) (txc.laid_met os _))) ?_
  intro W base args ds gs before hval0 hW hcnd hcond hsz0 hL _ _
  have hval : ∀ (j : Nat) t v, Tryz.f6.params[j]? = some t → args[j]? = some v → Value.okWide Tryz.prog W .any base t v := hval0
  have hW' := hW
  obtain ⟨p, q, hA0, hV, rfl, hfz, hnd⟩ := hW
  have hA : DataW.TrodAll enc Tryz.prog W 0 (fun _ => true) true Tryz.f6.params.toList args.toList ds p := hA0
  have hsz : (DataW.weightsEach Tryz.prog (Tryz.f6.params.toList ++ (OpenSpec.ofChange Rows.deriveOpensSpec).bare.plain.varTypes Tryz.prog) (ds ++ gs)).all (· ≤ reachBytes) = true := hsz0
  rw [Tryz.params6] at hA hval hsz
  obtain ⟨v0, vs0, d0, ds0, p0, q0, hargs, rfl, rfl, h0, r_0⟩ := trodAll_cons hA
  obtain ⟨v1, vs1, d1, ds1, p1, q1, rfl, rfl, rfl, h1, r_1⟩ := trodAll_cons r_0
  obtain ⟨v2, vs2, d2, ds2, p2, q2, rfl, rfl, rfl, h2, r_2⟩ := trodAll_cons r_1
  obtain ⟨v3, vs3, d3, ds3, p3, q3, rfl, rfl, rfl, h3, r_3⟩ := trodAll_cons r_2
  obtain ⟨v4, vs4, d4, ds4, p4, q4, rfl, rfl, rfl, h4, r_4⟩ := trodAll_cons r_3
  obtain ⟨rfl, rfl, rfl⟩ := trodAll_nil r_4
  obtain rfl : args = #[v0, v1, v2, v3, v4] := by cases args; simp_all
  obtain ⟨rfl, rfl⟩ := trodVars_none hV
  obtain ⟨a0, len0, cap0, rfl⟩ := okWide_slice Tryz.underlying22 (hval 0 22 v0 rfl rfl)
  have k0 := h0
  have lt0 : ∀ x ∈ p0, x.block < W.heap.size := by obtain ⟨m, hm⟩ := k0; exact DataW.trod_lt m _ _ _ hm
  obtain ⟨x0, e0, w0, l0, m0, z0⟩ := tmc.open_tms ({ U := _, f0 := _, f1 := _, f2 := _, f3 := _, hT := Tryz.underlying43, hone := by kernel_rfl, hC := by kernel_rfl, e0 := Tryz.underlying41, e1 := Tryz.underlying2, e2 := Tryz.underlying24, eU := Tryz.underlying5, cU := by kernel_rfl, bU := by kernel_rfl, e3 := Tryz.underlying22 }) Tryz.underlying22 h0
  have y0 := z0 (tmc.each_fit hsz (j := 0) rfl rfl)
  obtain ⟨a1, rfl, rfl, rfl, w1⟩ := open_int Tryz.underlying3 (hval 1 3 v1 rfl rfl) h1
  obtain ⟨a2, rfl, rfl, rfl, w2⟩ := open_int Tryz.underlying3 (hval 2 3 v2 rfl rfl) h2
  obtain ⟨a3, rfl, rfl, rfl, w3⟩ := open_int Tryz.underlying3 (hval 3 3 v3 rfl rfl) h3
  obtain ⟨a4, rfl, rfl, rfl, w4⟩ := open_int Tryz.underlying3 (hval 4 3 v4 rfl rfl) h4
  clear hA0 hval0
  have hT : txc.Tabs W := txc.tabs_of hL
  refine (walk a0 len0 cap0 x0 a1 a2 a3 a4 W e0 w0 l0 m0 y0 w1 w2 w3 w4 hT).mono fun e W' ⟨he, bel⟩ => ?_
  subst he
  exact ⟨_, rfl, _, _, _, [], _, [], hW', trodAll_mk1 (shut_bool Tryz.underlying4 _), (trodAll_cons_mk (Below.trod laidOut (by kernel_rfl) (of_decide_eq_true (by kernel_rfl)) k0 bel lt0) (trodAll_cons_mk (shut_int Tryz.underlying3 w1) (trodAll_cons_mk (shut_int Tryz.underlying3 w2) (trodAll_cons_mk (shut_int Tryz.underlying3 w3) (trodAll_cons_mk (shut_int Tryz.underlying3 w4) trodAll_mk0))))), rfl, bel.frame _, fun h => by cases h⟩

theorem over : Rows.deriveOpensRow.holds Tryz.pinned (OpenSpec.ofChange Rows.deriveOpensSpec) :=
  OpenClaim.holds_of_cond 6 Tryz.f6 rfl rfl rfl rfl rfl rfl rfl ⟨rfl, rfl, rfl, rfl, rfl⟩ rfl rfl rfl rfl rfl (by kernel_rfl) Tryz.func6 (by kernel_rfl)
    (of_decide_eq_true (by kernel_rfl)) (by unfold Func.isWrapper; first | (rw [if_pos (by decide +kernel)]; kernel_rfl) | (rw [if_neg (by decide +kernel)]; exact ⟨rfl, rfl⟩))
    (fun os started H enc _ F => by rw [OpenClaim.pre_eq_preRow]; exact lifted os started H enc F)

theorem plain (f : FuncId) (fn : Func) (hf : Tryz.pinned.checked.prog.funcNamed "warder/warderlaw08.DeriveOpens" = some f) (hfn : Tryz.pinned.checked.prog.funcs[f]? = some fn) :
    false = Tryz.pinned.checked.prog.looks [] ∧ ∀ (j : Nat) t, fn.params[j]? = some t → Tryz.pinned.checked.prog.wantsStandIn t = false := by
  obtain rfl : f = 6 := Option.some.inj ((show Tryz.prog.funcNamed "warder/warderlaw08.DeriveOpens" = some 6 by kernel_rfl).symm.trans hf) |>.symm
  obtain rfl : fn = Tryz.f6 := (Option.some.inj (Tryz.func6.symm.trans hfn)).symm
  refine ⟨by kernel_rfl, fun j t ht => ?_⟩
  rw [Tryz.params6] at ht
  match j, ht with
    | 0, ht => obtain rfl : t = 22 := (Option.some.inj ht).symm; exact (show Tryz.prog.wantsStandIn 22 = false by kernel_rfl)
    | 1, ht => obtain rfl : t = 3 := (Option.some.inj ht).symm; exact (show Tryz.prog.wantsStandIn 3 = false by kernel_rfl)
    | 2, ht => obtain rfl : t = 3 := (Option.some.inj ht).symm; exact (show Tryz.prog.wantsStandIn 3 = false by kernel_rfl)
    | 3, ht => obtain rfl : t = 3 := (Option.some.inj ht).symm; exact (show Tryz.prog.wantsStandIn 3 = false by kernel_rfl)
    | 4, ht => obtain rfl : t = 3 := (Option.some.inj ht).symm; exact (show Tryz.prog.wantsStandIn 3 = false by kernel_rfl)
    | j + 5, ht => simp at ht

theorem proved : Rows.DeriveOpensCardSaid :=
  Claim7.holds_tied_plain_at .later [] _ _ _ _ over (fun _ h => by cases h) (by kernel_rfl) (fun _ h => by cases h) deriveOpens_row_tie rfl ⟨rfl, rfl⟩ (by kernel_rfl) rfl plain (by kernel_rfl)
#print axioms proved
end Go.Proofs.YtlhogjigdmpokaaGreatDoor.deriveOpens
