/- The law VaultBytes of warderlaw06 answers true for every number, bytes and bound, and leaves its arguments as they were; no condition. -/
import Derived.Test.YtfmdmahlljbbmaaDoorCards
import Derived.Test.YtfmdmahlljbbmaaDoorTie
import Derived.WalkKit
import Derived.ProofKit
import Derived.OpenShut
import Derived.ChangeOld
import Derived.Below
import Derived.SizedLaws
import Derived.Test.YtfmdmahlljbbmaaDoorTh
import Derived.Test.YtfmdmahlljbbmaaDoorVtTab
import Derived.Test.YtfmdmahlljbbmaaDoorVp
import Derived.Test.YtfmdmahlljbbmaaDoorVu
import Derived.Test.YtfmdmahlljbbmaaDoorVs
import Derived.Test.YtfmdmahlljbbmaaDoorTd
import Derived.Deep.RegionHeld3
namespace Go.Proofs.YtfmdmahlljbbmaaDoor.vaultBytes
open Go.ChangeShapes Go.WideShapes Go.ChangeAt Go.RowKit
set_option linter.unusedVariables false

theorem own : ownKnob Tryd.prog.godebug = none := by kernel_rfl
theorem laidOut : laidOutB Tryd.prog = true := by kernel_rfl

open Go.Proofs.YtfmdmahlljbbmaaDoor.tlvc Go.Proofs.YtfmdmahlljbbmaaDoor.tmc Go.Proofs.YtfmdmahlljbbmaaDoor.vtc
/-- The conversions of the law's region, under names of their own. -/
def cvA : Op := Op.convert 24 9 (Operand.tmp 40)
def cvB : Op := Op.convert 24 9 (Operand.tmp 43)
def cvC : Op := Op.convert 24 9 (Operand.tmp 49)
def cvD : Op := Op.convert 24 9 (Operand.tmp 52)
theorem cvA_eq : cvA = Op.convert 24 9 (Operand.tmp 40) := rfl
theorem cvB_eq : cvB = Op.convert 24 9 (Operand.tmp 43) := rfl
theorem cvC_eq : cvC = Op.convert 24 9 (Operand.tmp 49) := rfl
theorem cvD_eq : cvD = Op.convert 24 9 (Operand.tmp 52) := rfl
theorem blw {w a b : World} (h : Below w.heap.size w a) (k : Below a.heap.size a b) : Below w.heap.size w b := h.trans (k.mono h.size)

set_option maxRecDepth 100000 in
set_option maxHeartbeats 16000000 in
theorem walk (a0 : Int) (a1 : Option Addr) (len1 cap1 : Nat) (x1 : List Int) (a2 : Int) (w : World) (w0 : (Lit.int .i64 a0).wf = true) (w1 : tlvc.Bys w a1 len1 x1) (l1 : len1 ≤ cap1) (r1 : cap1 ≤ 140737488351232) (w2 : (Lit.int .i64 a2).wf = true) (hT : txc.Tabs w) :
    Calls Tryd.prog 4 #[.int .i64 a0, .slice a1 len1 cap1, .int .i64 a2] w fun e w' => e = .returned (.bool true) ∧ Below w.heap.size w w' := by
  have hi0 := bounds_i64 w0
  have hm1 : cap1 ≤ maxLen := by unfold maxLen; omega
  have HH := Lib.hid (head_any w hT)
  have HNUM := Lib.hid fun W (hb : Below w.heap.size w W) => number_any a1 len1 cap1 x1 W (w1.below hb) l1 hm1
  have HRNUM := Lib.hid fun W (hb : Below w.heap.size w W) => rnumber_any a1 len1 cap1 x1 W (w1.below hb) l1 hm1
  obtain ⟨R, hR⟩ : ∃ x, numF x1 = x := ⟨_, rfl⟩
  rw [hR] at HNUM HRNUM
  have HB1 := Lib.hid fun W => bytes_any a0 W hi0
  have HB2 := Lib.hid fun W => rbytes_any a0 W
  have HM1 := Lib.hid fun W => mention_any a0 W hi0
  have HM2 := Lib.hid fun W => rmention_any a0 W
  obtain ⟨HBs, hHB⟩ : ∃ x, hbF a0 = x := ⟨_, rfl⟩
  obtain ⟨MEs, hME⟩ : ∃ x, menF a0 = x := ⟨_, rfl⟩
  rw [hHB] at HB1 HB2
  rw [hME] at HM1 HM2
  clear hR hHB hME w0 w2 hT
  obtain ⟨RN, hRN⟩ : ∃ x, R.getD (-1) = x := ⟨_, rfl⟩
  obtain ⟨RB, hRB⟩ : ∃ x, R.isSome = x := ⟨_, rfl⟩
  unfold NumPost at HNUM HRNUM
  rw [hRN, hRB] at HNUM HRNUM
  clear hRN hRB
  by_cases hl : len1 ≤ 20000
  · have hlz : ¬ (20000 : Int) < (len1 : Int) := by omega
    have HX1 := Lib.hid fun W (hb : Below w.heap.size w W) => mentions_any a1 len1 cap1 x1 a2 W (w1.below hb) l1 hm1 (by omega)
    have HX2 := Lib.hid fun W (hb : Below w.heap.size w W) => rmentions_any a1 len1 cap1 x1 a2 W (w1.below hb) l1 hm1 (by omega)
    obtain ⟨Z, hZ⟩ : ∃ x, mentionsF x1 a2 = x := ⟨_, rfl⟩
    rw [hZ] at HX1 HX2
    clear hZ w1 l1 r1 hm1
    go_enter Tryd.func4, Tryd.ntmps4
    go_wp2_with (first | (go_at_call 12; refine HH.out.mono ?_; rintro e wa ⟨rfl, hba⟩) | (go_at_call 24; refine (HNUM.out wa hba).mono ?_; rintro e wb ⟨rfl, rfl⟩) | (go_at_call 25; refine (HRNUM.out _ hba).mono ?_; rintro e wc ⟨rfl, rfl⟩))
    have hc1 := cvA_eq
    have hc2 := cvB_eq
    have hc3 := cvC_eq
    have hc4 := cvD_eq
    rw [← cvA_eq, ← cvB_eq, ← cvC_eq, ← cvD_eq]
    have hcur := hba.drew
    clear hba
    go_region_held3 (fun W => Below w.heap.size w W) (first | assumption | exact hcur) ((first
      | (go_at_call 26; refine (HB1.out _).mono ?_; rintro e wp ⟨A1, c1, rfl, g1, _, g3⟩; have s1 := str_now g1 c1; (try (have s2b := str_now (g2.below g3) c2)); have hB1 := blw (by assumption : Below w.heap.size w _) g3)
      | (go_at_call 27; refine (HB2.out _).mono ?_; rintro e wq ⟨A2, c2, rfl, g2, _, g3⟩; have s2 := str_now g2 c2; (try (have s1b := str_now (g1.below g3) c1)); have hB2 := blw (by assumption : Below w.heap.size w _) g3)
      | (go_at_call 28; refine (HM1.out _).mono ?_; rintro e wr ⟨A3, c3, rfl, g5, _, g3⟩; have s5 := str_now g5 c3; (try (have s6b := str_now (g6.below g3) c4)); have hM1 := blw (by assumption : Below w.heap.size w _) g3)
      | (go_at_call 29; refine (HM2.out _).mono ?_; rintro e ws ⟨A4, c4, rfl, g6, _, g3⟩; have s6 := str_now g6 c4; (try (have s5b := str_now (g5.below g3) c3)); have hM2 := blw (by assumption : Below w.heap.size w _) g3)
      | (go_at_call 31; refine (HX1.out _ (by assumption)).mono ?_; rintro e wt ⟨A5, c5, rfl, g7, g7b, g3⟩; (try (have g8c := g8.below g3)); have hX1 := blw (by assumption : Below w.heap.size w _) g3)
      | (go_at_call 32; refine (HX2.out _ (by assumption)).mono ?_; rintro e wu ⟨A6, c6, rfl, g8, g8b, g3⟩; (try (have g7c := g7.below g3)); have hX2 := blw (by assumption : Below w.heap.size w _) g3)
      | (go_at_call 30; (first | refine (isame_b A5 A6 _ c5 _ c6 Z Z _ g7 g8c (Nat.le_trans g7b.1 g7b.2)).mono ?_ | refine (isame_b A5 A6 _ c5 _ c6 Z Z _ g7c g8 (Nat.le_trans g7b.1 g7b.2)).mono ?_); rintro e wv ⟨rfl, g3⟩; have hS := blw (by assumption : Below w.heap.size w _) g3)))
    all_goals
      go_wp2
      go_ret
      exact ⟨by simp, by first | exact hS | assumption⟩
  · have hlz : (20000 : Int) < (len1 : Int) := by omega
    clear w1 l1 r1 hm1 HB1 HB2 HM1 HM2
    go_enter Tryd.func4, Tryd.ntmps4
    go_wp2_with (first | (go_at_call 12; refine HH.out.mono ?_; rintro e wa ⟨rfl, hba⟩) | (go_at_call 24; refine (HNUM.out wa hba).mono ?_; rintro e wb ⟨rfl, rfl⟩) | (go_at_call 25; refine (HRNUM.out _ hba).mono ?_; rintro e wc ⟨rfl, rfl⟩))
    go_ret
    exact ⟨by simp, hba⟩

theorem reads (os : Os) {H : Type} (enc : TypeId × Value → H) : ∃ places, DataW.whole enc Tryd.prog ((txc.laidWorld os).forCall (fun _ _ => 0) ⟨#[], #[.int .i64 0, .slice none 0 0, .int .i64 0], []⟩).memory Tryd.f4.params.toList Rows.vaultBytesSpec.vars false (#[.int .i64 0, .slice none 0 0, .int .i64 0] : Array Value).toList 8 = some ([.lit (.int .i64 0), .nil, .lit (.int .i64 0)], [], places) :=
  ⟨[], by kernel_rfl⟩
set_option maxRecDepth 100000 in
theorem lifted (os : Os) (started : os.Started) (H : Type) (enc : TypeId × Value → H) (F : Stop.Interp) :
    ReturnsInHanded {} Tryd.checked os 4 .any ((OpenSpec.ofChange Rows.vaultBytesSpec).preRow enc Tryd.prog Tryd.f4 Rows.vaultBytesRow.domain false Rows.vaultBytesRow.laid) (((OpenSpec.ofChange Rows.vaultBytesSpec).at F).post enc Tryd.prog Tryd.f4 false true false false) := by
  obtain ⟨places, hx⟩ := reads os enc
  refine returnsInHanded_of_row (C := Tryd.checked) (s := (OpenSpec.ofChange Rows.vaultBytesSpec)) own started (by kernel_rfl) Tryd.func4
    (witness_row_at (enc := enc) (C := Tryd.checked) false (txc.laidWorld os) #[.int .i64 0, .slice none 0 0, .int .i64 0] rfl (by kernel_rfl) (by kernel_rfl) (by kernel_rfl)
      (OpenSpec.preRow_of_cond 8 hx (by kernel_rfl) (fun k hk => by cases hk) (by kernel_rfl) (txc.laid_met os _))) ?_
  intro W base args ds gs before hval0 hW hcnd hcond hsz0 hL _ _
  have hval : ∀ (j : Nat) t v, Tryd.f4.params[j]? = some t → args[j]? = some v → Value.okWide Tryd.prog W .any base t v := hval0
  have hW' := hW
  obtain ⟨p, q, hA0, hV, rfl, hfz, hnd⟩ := hW
  have hA : DataW.TrodAll enc Tryd.prog W 0 (fun _ => true) true Tryd.f4.params.toList args.toList ds p := hA0
  have hsz : (DataW.weightsEach Tryd.prog (Tryd.f4.params.toList ++ (OpenSpec.ofChange Rows.vaultBytesSpec).bare.plain.varTypes Tryd.prog) (ds ++ gs)).all (· ≤ reachBytes) = true := hsz0
  rw [Tryd.params4] at hA hval hsz
  obtain ⟨v0, vs0, d0, ds0, p0, q0, hargs, rfl, rfl, h0, r_0⟩ := trodAll_cons hA
  obtain ⟨v1, vs1, d1, ds1, p1, q1, rfl, rfl, rfl, h1, r_1⟩ := trodAll_cons r_0
  obtain ⟨v2, vs2, d2, ds2, p2, q2, rfl, rfl, rfl, h2, r_2⟩ := trodAll_cons r_1
  obtain ⟨rfl, rfl, rfl⟩ := trodAll_nil r_2
  obtain rfl : args = #[v0, v1, v2] := by cases args; simp_all
  obtain ⟨rfl, rfl⟩ := trodVars_none hV
  obtain ⟨a0, rfl, rfl, rfl, w0⟩ := open_int Tryd.underlying3 (hval 0 3 v0 rfl rfl) h0
  obtain ⟨a1, len1, cap1, rfl⟩ := okWide_slice Tryd.underlying24 (hval 1 24 v1 rfl rfl)
  have k1 := h1
  have lt1 : ∀ x ∈ p1, x.block < W.heap.size := by obtain ⟨m, hm⟩ := k1; exact DataW.trod_lt m _ _ _ hm
  obtain ⟨x1, w1, l1, m1, s1⟩ := tlvc.open_bys Tryd.underlying24 Tryd.underlying5 (by kernel_rfl) h1
  have r1 := tlvc.spots_reach hsz s1 (j := 1) rfl rfl Tryd.underlying24 (of_decide_eq_true (by kernel_rfl))
  obtain ⟨a2, rfl, rfl, rfl, w2⟩ := open_int Tryd.underlying3 (hval 2 3 v2 rfl rfl) h2
  clear hA0 hval0
  have hT : txc.Tabs W := txc.tabs_of hL
  refine (walk a0 a1 len1 cap1 x1 a2 W w0 w1 l1 r1 w2 hT).mono fun e W' ⟨he, bel⟩ => ?_
  subst he
  exact ⟨_, rfl, _, _, _, [], _, [], hW', trodAll_mk1 (shut_bool Tryd.underlying4 _), (trodAll_cons_mk (shut_int Tryd.underlying3 w0) (trodAll_cons_mk (Below.trod laidOut (by kernel_rfl) (of_decide_eq_true (by kernel_rfl)) k1 bel lt1) (trodAll_cons_mk (shut_int Tryd.underlying3 w2) trodAll_mk0))), rfl, bel.frame _, fun h => by cases h⟩

theorem over : Rows.vaultBytesRow.holds Tryd.pinned (OpenSpec.ofChange Rows.vaultBytesSpec) :=
  OpenClaim.holds_of_cond 4 Tryd.f4 rfl rfl rfl rfl rfl rfl rfl ⟨rfl, rfl, rfl, rfl, rfl⟩ rfl rfl rfl rfl rfl (by kernel_rfl) Tryd.func4 (by kernel_rfl)
    (of_decide_eq_true (by kernel_rfl)) (by unfold Func.isWrapper; first | (rw [if_pos (by decide +kernel)]; kernel_rfl) | (rw [if_neg (by decide +kernel)]; exact ⟨rfl, rfl⟩))
    (fun os started H enc _ F => by rw [OpenClaim.pre_eq_preRow]; exact lifted os started H enc F)

theorem plain (f : FuncId) (fn : Func) (hf : Tryd.pinned.checked.prog.funcNamed "warder/warderlaw06.VaultBytes" = some f) (hfn : Tryd.pinned.checked.prog.funcs[f]? = some fn) :
    false = Tryd.pinned.checked.prog.looks [] ∧ ∀ (j : Nat) t, fn.params[j]? = some t → Tryd.pinned.checked.prog.wantsStandIn t = false := by
  obtain rfl : f = 4 := Option.some.inj ((show Tryd.prog.funcNamed "warder/warderlaw06.VaultBytes" = some 4 by kernel_rfl).symm.trans hf) |>.symm
  obtain rfl : fn = Tryd.f4 := (Option.some.inj (Tryd.func4.symm.trans hfn)).symm
  refine ⟨by kernel_rfl, fun j t ht => ?_⟩
  rw [Tryd.params4] at ht
  match j, ht with
    | 0, ht => obtain rfl : t = 3 := (Option.some.inj ht).symm; exact (show Tryd.prog.wantsStandIn 3 = false by kernel_rfl)
    | 1, ht => obtain rfl : t = 24 := (Option.some.inj ht).symm; exact (show Tryd.prog.wantsStandIn 24 = false by kernel_rfl)
    | 2, ht => obtain rfl : t = 3 := (Option.some.inj ht).symm; exact (show Tryd.prog.wantsStandIn 3 = false by kernel_rfl)
    | j + 3, ht => simp at ht

theorem proved : Rows.VaultBytesCardSaid :=
  Claim7.holds_tied_plain_at .later [] _ _ _ _ over (fun _ h => by cases h) (by kernel_rfl) (fun _ h => by cases h) vaultBytes_row_tie rfl ⟨rfl, rfl⟩ (by kernel_rfl) rfl plain (by kernel_rfl)
#print axioms proved
end Go.Proofs.YtfmdmahlljbbmaaDoor.vaultBytes
