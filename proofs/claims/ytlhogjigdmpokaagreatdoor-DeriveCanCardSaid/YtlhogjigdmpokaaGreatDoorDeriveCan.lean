/- The law DeriveCan of warderlaw08 answers true for every list of terms, handles and handle, and leaves its arguments as they were; no condition. -/
import Derived.Test.YtlhogjigdmpokaaGreatDoorCards
import Derived.Test.YtlhogjigdmpokaaGreatDoorTie
import Derived.WalkKit
import Derived.ProofKit
import Derived.OpenShut
import Derived.ChangeOld
import Derived.Below
import Derived.SizedLaws
import Derived.Test.YtlhogjigdmpokaaGreatDoorTh
import Derived.Test.YtlhogjigdmpokaaGreatDoorVtTab
import Derived.Test.YtlhogjigdmpokaaGreatDoorDq
import Derived.Test.YtlhogjigdmpokaaGreatDoorFg
namespace Go.Proofs.YtlhogjigdmpokaaGreatDoor.deriveCan
open Go.ChangeShapes Go.WideShapes Go.ChangeAt Go.RowKit
set_option linter.unusedVariables false

theorem own : ownKnob Tryz.prog.godebug = none := by kernel_rfl
theorem laidOut : laidOutB Tryz.prog = true := by kernel_rfl

open Go.Proofs.YtlhogjigdmpokaaGreatDoor.tlvc Go.Proofs.YtlhogjigdmpokaaGreatDoor.tmc Go.Proofs.YtlhogjigdmpokaaGreatDoor.vtc

set_option maxRecDepth 100000 in
set_option maxHeartbeats 16000000 in
theorem walk (a0 : Option Addr) (len0 cap0 : Nat) (x0 : List tmc.Tm) (a1 : Option Addr) (len1 cap1 : Nat) (x1 : List Int) (a2 : Int) (w : World) (e0 : x0.length = len0) (w0 : tmc.Tms w a0 x0) (l0 : len0 ≤ cap0) (m0 : cap0 ≤ maxLen) (y0 : tmc.fitDs x0) (w1 : tlvc.Ins w a1 len1 x1) (l1 : len1 ≤ cap1) (r1 : cap1 ≤ 17592186043904) (w2 : (Lit.int .i64 a2).wf = true) (hT : txc.Tabs w) :
    Calls Tryz.prog 7 #[.slice a0 len0 cap0, .slice a1 len1 cap1, .int .i64 a2] w fun e w' => e = .returned (.bool true) ∧ Below w.heap.size w w' := by
  have ha2 : I64 a2 := bounds_i64 w2
  have hm1 : cap1 ≤ maxLen := by unfold maxLen; omega
  have HT := Lib.hid (show txc.Tab w.heap.size w from hT)
  have HX1 := Lib.hid (And.intro w1 hm1)
  have HH := Lib.hid (head8_any w hT)
  have HBO := Lib.hid fun (W : World) (hb : Below w.heap.size w W) => both_any a0 len0 cap0 x0 W e0 (tms_below w0 hb) l0 m0 ((hT.on hb).mono hb.size)
  have kc := fun (w : World) (C : Array Value) (n c : Nat) => Lib.run_convert_bytes_const (P := Tryz.prog) w 24 5 C n c Tryz.underlying24 Tryz.underlying5
  clear w0 w1 w2 y0 e0 m0 hT hm1
  go_enter Tryz.func7, Tryz.ntmps7
  go_wp2_with fail
  refine HH.out.mono ?_
  rintro e wa ⟨rfl, hba⟩
  have HBA := Lib.hid hba
  have HB2 := Lib.hid (HBO.out wa hba)
  clear hba HBO HH
  go_wp2_with fail
  refine HB2.out.mono ?_
  rintro e wb (⟨rfl, hbb⟩ | ⟨vb, mb, ob, rb, od, L, rfl, htw, hsz⟩)
  · have HE := Lib.hid (blw HBA.out hbb)
    clear hbb
    go_wp2
    go_ret
    exact ⟨rfl, HE.out⟩
  · have hta : txc.Tab wa.heap.size wa := (HT.out.on HBA.out).mono HBA.out.size
    have hv := htw.vat hsz
    have HTA := Lib.hid hta
    have HV := Lib.hid hv
    have HE := Lib.hid (blw HBA.out hv.bel)
    clear htw hsz hv hta HB2
    by_cases hl5 : len1 ≤ 500
    · have hlz : ¬ (500 : Int) < (len1 : Int) := by omega
      have HTM := Lib.hid (HV.out.term a2)
      go_wp2_with fail
      refine HTM.out.mono ?_
      rintro e w3 ⟨t, t0, t1, tA, tla, tca, tK, tlk, tck, rfl, _, _, hb3⟩
      have HB3 := Lib.hid hb3
      clear hb3 HTM
      obtain ⟨bq, hbq⟩ : ∃ x, decide (0 ≤ a2 ∧ a2 < (L.length : Int)) = x := ⟨_, rfl⟩
      rw [hbq]
      have HBQ := Lib.hid hbq
      clear hbq
      cases bq
      · go_wp2_with fail
        go_ret
        exact ⟨rfl, blw HE.out (HB3.out.trans ((below_new _ _).mono HB3.out.size))⟩
      · go_upto_region 8 with fail
        have hb4 := below_new w3 (.cells #[.int .i64 t0, .int .i64 t1, .slice tA tla tca, .slice tK tlk tck] 43)
        obtain ⟨W4, hW4⟩ : ∃ x, w3.alloc (.cells #[.int .i64 t0, .int .i64 t1, .slice tA tla tca, .slice tK tlk tck] 43) = x := ⟨_, rfl⟩
        rw [hW4] at hb4 ⊢
        have hb5 := below_new W4 (.cells #[.int .u8 104, .int .u8 101, .int .u8 108, .int .u8 108, .int .u8 111] 5 (5, 6))
        have hq := heap_new_ W4 (.cells #[.int .u8 104, .int .u8 101, .int .u8 108, .int .u8 108, .int .u8 111] 5 (5, 6))
        have hby : Bys (W4.alloc (.cells #[.int .u8 104, .int .u8 101, .int .u8 108, .int .u8 108, .int .u8 111] 5 (5, 6))) (some ⟨W4.heap.size, 0, none⟩) 5 [104, 101, 108, 108, 111] := ⟨rfl, fun x hx => by
          simp only [List.mem_cons, List.not_mem_nil, or_false] at hx
          omega, fun _ => ⟨_, 0, rfl, by simp, fun j hj => by
          rcases (show j = 0 ∨ j = 1 ∨ j = 2 ∨ j = 3 ∨ j = 4 by omega) with rfl | rfl | rfl | rfl | rfl <;> exact (Lib.cell_of_heap hq _).trans rfl⟩⟩
        have hb45 := blw HB3.out (blw hb4 hb5)
        have hv5 := HV.out.below (blw HB3.out (blw hb4 hb5))
        have hc5 := hv5.can HTA.out none 0 0 [] (Ins.nil_ _ _) (Nat.le_refl _) (Nat.zero_le _) (some ⟨W4.heap.size, 0, none⟩) 5 5 [104, 101, 108, 108, 111] hby (Nat.le_refl _) (by unfold maxLen; omega) (by omega) (fun x hx => by
          simp only [List.mem_cons, List.not_mem_nil, or_false] at hx
          omega)
        rw [can_short (by simp)] at hc5
        have HC5 := Lib.hid hc5
        have HB5 := Lib.hid hb45
        have HMN := Lib.hid fun (W : World) => mention_any a2 W ha2
        clear hW4 hb4 hb5 hq hby hb45 hv5 hc5
        go_wp2_with fail
        refine HC5.out.mono ?_
        rintro e w6 ⟨rfl, hb6⟩
        have HB6 := Lib.hid (blw HB5.out hb6)
        clear hb6 HC5
        go_wp2_with fail
        refine (HMN.out _).mono ?_
        rintro e w7 ⟨A7, c7, rfl, y7, ⟨l7, m7⟩, b7⟩
        obtain ⟨k, hk⟩ : ∃ k : Nat, a2 = (k : Int) := ⟨a2.toNat, by have := of_decide_eq_true HBQ.out; omega⟩
        have hkL : k < L.length := by have := of_decide_eq_true HBQ.out; omega
        have hL := HV.out.vlt.len
        have hb7 := blw HB6.out b7
        have hv7 := HV.out.below hb7
        have hx7 : Ins w7 a1 len1 x1 := HX1.out.1.below (blw HE.out hb7)
        have hn2 : 0 ≤ a2 ∧ a2 < 281474976710656 := by omega
        have hc7 := hv7.can HTA.out a1 len1 cap1 x1 hx7 l1 HX1.out.2 A7 _ c7 (menF a2) y7 l7 m7 (by rw [menF_len hn2]; omega) (menF_bytes hn2)
        have hcm : canF L x1 (menF a2) = decide (a2 ∈ clF L x1) := by rw [hk]; exact can_men x1 hkL hL
        rw [hcm] at hc7
        obtain ⟨bz, hbz⟩ : ∃ x, decide (a2 ∈ clF L x1) = x := ⟨_, rfl⟩
        rw [hbz] at hc7
        have HC7 := Lib.hid hc7
        have HB7 := Lib.hid (And.intro hb7 hbz)
        clear y7 l7 m7 b7 hb7 hv7 hx7 hn2 hc7 hcm hbz hk hkL hL
        go_wp2_with fail
        refine HC7.out.mono ?_
        rintro e w8 ⟨rfl, hb8⟩
        have hb8' := blw HB7.out.1 hb8
        have HC8 := Lib.hid ((HV.out.below hb8').closure HTA.out a1 len1 cap1 x1 (HX1.out.1.below (blw HE.out hb8')) l1 HX1.out.2)
        have HB8 := Lib.hid hb8'
        clear hb8 hb8' HC7
        go_wp2_with fail
        refine HC8.out.mono ?_
        rintro e w9 ⟨A9, c9, rfl, i9, ⟨l9, m9⟩, b9, _⟩
        have hh := has_any A9 _ c9 _ a2 w9 i9 l9 m9
        rw [HB7.out.2] at hh
        have HHA := Lib.hid hh
        have HB9 := Lib.hid (blw HB8.out b9)
        clear hh i9 l9 m9 b9 HC8
        go_wp2_with fail
        refine HHA.out.mono ?_
        rintro e w10 ⟨rfl, hb10⟩
        have HB10 := Lib.hid (blw HE.out (blw HB9.out hb10))
        clear hb10 HHA
        go_wp2_with fail
        go_ret
        exact ⟨by simp, HB10.out⟩
    · have hlz : (500 : Int) < (len1 : Int) := by omega
      go_wp2
      go_ret
      exact ⟨rfl, HE.out⟩

theorem reads (os : Os) {H : Type} (enc : TypeId × Value → H) : ∃ places, DataW.whole enc Tryz.prog ((txc.laidWorld os).forCall (fun _ _ => 0) ⟨#[], #[.slice none 0 0, .slice none 0 0, .int .i64 0], []⟩).memory Tryz.f7.params.toList Rows.deriveCanSpec.vars false (#[.slice none 0 0, .slice none 0 0, .int .i64 0] : Array Value).toList 8 = some ([.nil, .nil, .lit (.int .i64 0)], [], places) :=
  ⟨[], by kernel_rfl⟩
set_option maxRecDepth 100000 in
theorem lifted (os : Os) (started : os.Started) (H : Type) (enc : TypeId × Value → H) (F : Stop.Interp) :
    ReturnsInHanded {} Tryz.checked os 7 .any ((OpenSpec.ofChange Rows.deriveCanSpec).preRow enc Tryz.prog Tryz.f7 Rows.deriveCanRow.domain false Rows.deriveCanRow.laid) (((OpenSpec.ofChange Rows.deriveCanSpec).at F).post enc Tryz.prog Tryz.f7 false true false false) := by
  obtain ⟨places, hx⟩ := reads os enc
  refine returnsInHanded_of_row (C := Tryz.checked) (s := (OpenSpec.ofChange Rows.deriveCanSpec)) own started (by kernel_rfl) Tryz.func7
    (witness_row_at (enc := enc) (C := Tryz.checked) false (txc.laidWorld os) #[.slice none 0 0, .slice none 0 0, .int .i64 0] rfl (by kernel_rfl) (by kernel_rfl) (by kernel_rfl)
      (OpenSpec.preRow_of_cond 8 hx (by kernel_rfl) (fun k hk => by cases hk) (by kernel_rfl) (txc.laid_met os _))) ?_
  intro W base args ds gs before hval0 hW hcnd hcond hsz0 hL _ _
  have hval : ∀ (j : Nat) t v, Tryz.f7.params[j]? = some t → args[j]? = some v → Value.okWide Tryz.prog W .any base t v := hval0
  have hW' := hW
  obtain ⟨p, q, hA0, hV, rfl, hfz, hnd⟩ := hW
  have hA : DataW.TrodAll enc Tryz.prog W 0 (fun _ => true) true Tryz.f7.params.toList args.toList ds p := hA0
  have hsz : (DataW.weightsEach Tryz.prog (Tryz.f7.params.toList ++ (OpenSpec.ofChange Rows.deriveCanSpec).bare.plain.varTypes Tryz.prog) (ds ++ gs)).all (· ≤ reachBytes) = true := hsz0
  rw [Tryz.params7] at hA hval hsz
  obtain ⟨v0, vs0, d0, ds0, p0, q0, hargs, rfl, rfl, h0, r_0⟩ := trodAll_cons hA
  obtain ⟨v1, vs1, d1, ds1, p1, q1, rfl, rfl, rfl, h1, r_1⟩ := trodAll_cons r_0
  obtain ⟨v2, vs2, d2, ds2, p2, q2, rfl, rfl, rfl, h2, r_2⟩ := trodAll_cons r_1
  obtain ⟨rfl, rfl, rfl⟩ := trodAll_nil r_2
  obtain rfl : args = #[v0, v1, v2] := by cases args; simp_all
  obtain ⟨rfl, rfl⟩ := trodVars_none hV
  obtain ⟨a0, len0, cap0, rfl⟩ := okWide_slice Tryz.underlying22 (hval 0 22 v0 rfl rfl)
  have k0 := h0
  have lt0 : ∀ x ∈ p0, x.block < W.heap.size := by obtain ⟨m, hm⟩ := k0; exact DataW.trod_lt m _ _ _ hm
  obtain ⟨x0, e0, w0, l0, m0, z0⟩ := tmc.open_tms ({ U := _, f0 := _, f1 := _, f2 := _, f3 := _, hT := Tryz.underlying43, hone := by kernel_rfl, hC := by kernel_rfl, e0 := Tryz.underlying41, e1 := Tryz.underlying2, e2 := Tryz.underlying24, eU := Tryz.underlying5, cU := by kernel_rfl, bU := by kernel_rfl, e3 := Tryz.underlying22 }) Tryz.underlying22 h0
  have y0 := z0 (tmc.each_fit hsz (j := 0) rfl rfl)
  obtain ⟨a1, len1, cap1, rfl⟩ := okWide_slice Tryz.underlying23 (hval 1 23 v1 rfl rfl)
  have k1 := h1
  have lt1 : ∀ x ∈ p1, x.block < W.heap.size := by obtain ⟨m, hm⟩ := k1; exact DataW.trod_lt m _ _ _ hm
  obtain ⟨x1, w1, l1, m1, s1⟩ := tlvc.open_ins Tryz.underlying23 Tryz.underlying3 (by kernel_rfl) h1
  have r1 := tlvc.spots_reach8 hsz s1 (j := 1) rfl rfl Tryz.underlying23 (of_decide_eq_true (by kernel_rfl))
  obtain ⟨a2, rfl, rfl, rfl, w2⟩ := open_int Tryz.underlying3 (hval 2 3 v2 rfl rfl) h2
  clear hA0 hval0
  have hT : txc.Tabs W := txc.tabs_of hL
  refine (walk a0 len0 cap0 x0 a1 len1 cap1 x1 a2 W e0 w0 l0 m0 y0 w1 l1 r1 w2 hT).mono fun e W' ⟨he, bel⟩ => ?_
  subst he
  exact ⟨_, rfl, _, _, _, [], _, [], hW', trodAll_mk1 (shut_bool Tryz.underlying4 _), (trodAll_cons_mk (Below.trod laidOut (by kernel_rfl) (of_decide_eq_true (by kernel_rfl)) k0 bel lt0) (trodAll_cons_mk (Below.trod laidOut (by kernel_rfl) (of_decide_eq_true (by kernel_rfl)) k1 bel lt1) (trodAll_cons_mk (shut_int Tryz.underlying3 w2) trodAll_mk0))), rfl, bel.frame _, fun h => by cases h⟩

theorem over : Rows.deriveCanRow.holds Tryz.pinned (OpenSpec.ofChange Rows.deriveCanSpec) :=
  OpenClaim.holds_of_cond 7 Tryz.f7 rfl rfl rfl rfl rfl rfl rfl ⟨rfl, rfl, rfl, rfl, rfl⟩ rfl rfl rfl rfl rfl (by kernel_rfl) Tryz.func7 (by kernel_rfl)
    (of_decide_eq_true (by kernel_rfl)) (by unfold Func.isWrapper; first | (rw [if_pos (by decide +kernel)]; kernel_rfl) | (rw [if_neg (by decide +kernel)]; exact ⟨rfl, rfl⟩))
    (fun os started H enc _ F => by rw [OpenClaim.pre_eq_preRow]; exact lifted os started H enc F)

theorem plain (f : FuncId) (fn : Func) (hf : Tryz.pinned.checked.prog.funcNamed "warder/warderlaw08.DeriveCan" = some f) (hfn : Tryz.pinned.checked.prog.funcs[f]? = some fn) :
    false = Tryz.pinned.checked.prog.looks [] ∧ ∀ (j : Nat) t, fn.params[j]? = some t → Tryz.pinned.checked.prog.wantsStandIn t = false := by
  obtain rfl : f = 7 := Option.some.inj ((show Tryz.prog.funcNamed "warder/warderlaw08.DeriveCan" = some 7 by kernel_rfl).symm.trans hf) |>.symm
  obtain rfl : fn = Tryz.f7 := (Option.some.inj (Tryz.func7.symm.trans hfn)).symm
  refine ⟨by kernel_rfl, fun j t ht => ?_⟩
  rw [Tryz.params7] at ht
  match j, ht with
    | 0, ht => obtain rfl : t = 22 := (Option.some.inj ht).symm; exact (show Tryz.prog.wantsStandIn 22 = false by kernel_rfl)
    | 1, ht => obtain rfl : t = 23 := (Option.some.inj ht).symm; exact (show Tryz.prog.wantsStandIn 23 = false by kernel_rfl)
    | 2, ht => obtain rfl : t = 3 := (Option.some.inj ht).symm; exact (show Tryz.prog.wantsStandIn 3 = false by kernel_rfl)
    | j + 3, ht => simp at ht

theorem proved : Rows.DeriveCanCardSaid :=
  Claim7.holds_tied_plain_at .later [] _ _ _ _ over (fun _ h => by cases h) (by kernel_rfl) (fun _ h => by cases h) deriveCan_row_tie rfl ⟨rfl, rfl⟩ (by kernel_rfl) rfl plain (by kernel_rfl)
#print axioms proved
end Go.Proofs.YtlhogjigdmpokaaGreatDoor.deriveCan
