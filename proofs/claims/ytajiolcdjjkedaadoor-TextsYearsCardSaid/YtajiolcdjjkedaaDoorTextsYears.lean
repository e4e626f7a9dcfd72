/- The law TextsYears of warderlaw03 answers true for every number of seconds, and leaves its argument as it was; no condition but that the library's two tables are as its text lays them. -/
import Derived.Test.YtajiolcdjjkedaaDoorCards
import Derived.Test.YtajiolcdjjkedaaDoorTie
import Derived.WalkKit
import Derived.ProofKit
import Derived.OpenShut
import Derived.ChangeOld
import Derived.Below
import Derived.SizedLaws
import Derived.Test.YtajiolcdjjkedaaDoorTlvO
import Derived.Test.YtajiolcdjjkedaaDoorTxY
import Derived.Test.YtajiolcdjjkedaaDoorTxW
namespace Go.Proofs.YtajiolcdjjkedaaDoor.textsYears
open Go.ChangeShapes Go.WideShapes Go.ChangeAt Go.RowKit
set_option linter.unusedVariables false

theorem own : ownKnob Tryd.prog.godebug = none := by kernel_rfl
theorem laidOut : laidOutB Tryd.prog = true := by kernel_rfl

open Go.Proofs.YtajiolcdjjkedaaDoor.tlvc Go.Proofs.YtajiolcdjjkedaaDoor.txc Go.Proofs.YtajiolcdjjkedaaDoor.txm

set_option maxRecDepth 100000 in
set_option maxHeartbeats 2000000 in
theorem walk (a0 : Int) (w : World) (w0 : (Lit.int .i64 a0).wf = true) (hT : txc.Tabs w) :
    Calls Tryd.prog 11 #[.int .i64 a0] w fun e w' => e = .returned (.bool true) ∧ Below w.heap.size w w' := by
  go_enter Tryd.func11, Tryd.ntmps11
  go_wp2_with fail
  refine (head_any _).mono ?_
  rintro e wa ⟨rfl, hba⟩
  by_cases h : InR a0
  · have hlen := bodyOf_len (s := a0)
    have hdig := body_dig h
    have hlast := body_last (s := a0)
    have hpos : 0 < (bodyOf a0).length := by rw [hlen]; split <;> omega
    obtain ⟨t, ht⟩ : ∃ t, tagOf a0 = t := ⟨_, rfl⟩
    obtain ⟨xs, hxs⟩ : ∃ xs, bodyOf a0 = xs := ⟨_, rfl⟩
    obtain ⟨n, hn⟩ : ∃ n, xs.length = n := ⟨_, rfl⟩
    rw [hxs] at hlen hdig hlast hpos
    rw [hn] at hlen hdig hlast hpos
    have HT := Lib.hid ht
    have HX := Lib.hid hxs
    have HN := Lib.hid hn
    have HL := Lib.hid hlen
    clear ht hxs hn hlen
    go_wp2_with fail
    refine (putTime_in _ _ h).mono ?_
    rw [HT.out, HX.out]
    rintro e wb ⟨A, c, rfl, hh, hbb⟩
    have hby := hh.1
    rw [HN.out] at hby ⊢
    have hB := then_ hba hbb
    clear hba hbb
    obtain ⟨b, off, rfl, hblt, hcells⟩ := hby.2.2 hpos
    have HC := Lib.hid hcells
    have HD := Lib.hid hdig
    clear hcells hdig hby hh
    by_cases he : 2524608000 ≤ a0
    · have hn15 : n = 15 := by have := HL.out; rw [if_pos he] at this; exact this
      have ht24 : t = 24 := by rw [← HT.out]; exact if_pos he
      subst hn15 ht24
      have he' : ¬ a0 < 2524608000 := by omega
      have hz : wb.cell? ⟨b, off + 14, none⟩ = some (.int .u8 90) := by rw [HC.out 14 (by omega)]; exact congrArg some (congrArg _ hlast)
      clear HT HX HN HL hlast hpos
      go_wp2_with fail
      go_loop [8] (fun t8 => ∃ k : Nat, k < 15 ∧ t8 = .int .i64 k) (fun t8 => 15 - (intOf t8).toNat)
      case atStart => exact ⟨0, by omega, rfl⟩
      case round =>
        obtain ⟨k, hk, rfl⟩ := hrel
        by_cases hlt : k + 1 < 15
        · have hd := HD.out k hlt
          have hc := HC.out k (by omega)
          obtain ⟨X, hX⟩ : ∃ X, xs.getD k 0 = X := ⟨_, rfl⟩
          rw [hX] at hc hd
          obtain ⟨hd0, hd1⟩ := hd
          have hlt' : (k : Int) + 1 < 15 := by omega
          have hk0 : (0 : Int) ≤ (k : Int) := by omega
          have hkn : (k : Int) < 15 := by omega
          clear hX
          go_wp2
          go_round
          case rel => exact ⟨k + 1, hlt, by go_num⟩
          case measure => simp [intOf]; omega
        · have hlt' : ¬ (k : Int) + 1 < 15 := by omega
          go_wp2
          go_ret
          exact ⟨rfl, hB⟩
    · have hn13 : n = 13 := by have := HL.out; rw [if_neg he] at this; exact this
      have ht23 : t = 23 := by rw [← HT.out]; exact if_neg he
      subst hn13 ht23
      have he' : a0 < 2524608000 := by omega
      have hz : wb.cell? ⟨b, off + 12, none⟩ = some (.int .u8 90) := by rw [HC.out 12 (by omega)]; exact congrArg some (congrArg _ hlast)
      clear HT HX HN HL hlast hpos he
      go_wp2_with fail
      go_loop [8] (fun t8 => ∃ k : Nat, k < 13 ∧ t8 = .int .i64 k) (fun t8 => 13 - (intOf t8).toNat)
      case atStart => exact ⟨0, by omega, rfl⟩
      case round =>
        obtain ⟨k, hk, rfl⟩ := hrel
        by_cases hlt : k + 1 < 13
        · have hd := HD.out k hlt
          have hc := HC.out k (by omega)
          obtain ⟨X, hX⟩ : ∃ X, xs.getD k 0 = X := ⟨_, rfl⟩
          rw [hX] at hc hd
          obtain ⟨hd0, hd1⟩ := hd
          have hlt' : (k : Int) + 1 < 13 := by omega
          have hk0 : (0 : Int) ≤ (k : Int) := by omega
          have hkn : (k : Int) < 13 := by omega
          clear hX
          go_wp2
          go_round
          case rel => exact ⟨k + 1, hlt, by go_num⟩
          case measure => simp [intOf]; omega
        · have hlt' : ¬ (k : Int) + 1 < 13 := by omega
          go_wp2
          go_ret
          exact ⟨rfl, hB⟩
  · have ho := out_of h
    go_wp2_with fail
    refine (putTime_out _ _ ho).mono ?_
    rintro e wb ⟨A, c, rfl, hh, hbb⟩
    have hB := then_ hba hbb
    clear hba hbb h
    rcases ho with ho | ho
    · go_wp2
      go_ret
      exact ⟨rfl, hB⟩
    · have ho2 : ¬ a0 < -631152000 := by omega
      go_wp2
      go_ret
      exact ⟨rfl, hB⟩

theorem reads (os : Os) {H : Type} (enc : TypeId × Value → H) : ∃ places, DataW.whole enc Tryd.prog ((txc.laidWorld os).forCall (fun _ _ => 0) ⟨#[], #[.int .i64 0], []⟩).memory Tryd.f11.params.toList Rows.textsYearsSpec.vars false (#[.int .i64 0] : Array Value).toList 8 = some ([.lit (.int .i64 0)], [], places) :=
  ⟨[], by kernel_rfl⟩
set_option maxRecDepth 100000 in
theorem lifted (os : Os) (started : os.Started) (H : Type) (enc : TypeId × Value → H) (F : Stop.Interp) :
    ReturnsInHanded {} Tryd.checked os 11 .any ((OpenSpec.ofChange Rows.textsYearsSpec).preRow enc Tryd.prog Tryd.f11 Rows.textsYearsRow.domain false Rows.textsYearsRow.laid) (((OpenSpec.ofChange Rows.textsYearsSpec).at F).post enc Tryd.prog Tryd.f11 false true false false) := by
  obtain ⟨places, hx⟩ := reads os enc
  refine returnsInHanded_of_row (C := Tryd.checked) (s := (OpenSpec.ofChange Rows.textsYearsSpec)) own started (by kernel_rfl) Tryd.func11
    (witness_row_at (enc := enc) (C := Tryd.checked) false (txc.laidWorld os) #[.int .i64 0] rfl (by kernel_rfl) (by kernel_rfl) (by kernel_rfl)
      (OpenSpec.preRow_of_cond 8 hx (by kernel_rfl) (fun k hk => by cases hk) (by kernel_rfl) (txc.laid_met os _))) ?_
  intro W base args ds gs before hval0 hW hcnd hcond hsz0 hL _ _
  have hval : ∀ (j : Nat) t v, Tryd.f11.params[j]? = some t → args[j]? = some v → Value.okWide Tryd.prog W .any base t v := hval0
  have hW' := hW
  obtain ⟨p, q, hA0, hV, rfl, hfz, hnd⟩ := hW
  have hA : DataW.TrodAll enc Tryd.prog W 0 (fun _ => true) true Tryd.f11.params.toList args.toList ds p := hA0
  have hsz : (DataW.weightsEach Tryd.prog (Tryd.f11.params.toList ++ (OpenSpec.ofChange Rows.textsYearsSpec).bare.plain.varTypes Tryd.prog) (ds ++ gs)).all (· ≤ reachBytes) = true := hsz0
  rw [Tryd.params11] at hA hval hsz
  obtain ⟨v0, vs0, d0, ds0, p0, q0, hargs, rfl, rfl, h0, r_0⟩ := trodAll_cons hA
  obtain ⟨rfl, rfl, rfl⟩ := trodAll_nil r_0
  obtain rfl : args = #[v0] := by cases args; simp_all
  obtain ⟨rfl, rfl⟩ := trodVars_none hV
  obtain ⟨a0, rfl, rfl, rfl, w0⟩ := open_int Tryd.underlying2 (hval 0 2 v0 rfl rfl) h0
  clear hA0 hval0
  have hT : txc.Tabs W := txc.tabs_of hL
  refine (walk a0 W w0 hT).mono fun e W' ⟨he, bel⟩ => ?_
  subst he
  exact ⟨_, rfl, _, _, _, [], _, [], hW', trodAll_mk1 (shut_bool Tryd.underlying4 _), (trodAll_cons_mk (shut_int Tryd.underlying2 w0) trodAll_mk0), rfl, bel.frame _, fun h => by cases h⟩

theorem over : Rows.textsYearsRow.holds Tryd.pinned (OpenSpec.ofChange Rows.textsYearsSpec) :=
  OpenClaim.holds_of_cond 11 Tryd.f11 rfl rfl rfl rfl rfl rfl rfl ⟨rfl, rfl, rfl, rfl, rfl⟩ rfl rfl rfl rfl rfl (by kernel_rfl) Tryd.func11 (by kernel_rfl)
    (of_decide_eq_true (by kernel_rfl)) (by unfold Func.isWrapper; first | (rw [if_pos (by decide +kernel)]; kernel_rfl) | (rw [if_neg (by decide +kernel)]; exact ⟨rfl, rfl⟩))
    (fun os started H enc _ F => by rw [OpenClaim.pre_eq_preRow]; exact lifted os started H enc F)

theorem plain (f : FuncId) (fn : Func) (hf : Tryd.pinned.checked.prog.funcNamed "warder/warderlaw03.TextsYears" = some f) (hfn : Tryd.pinned.checked.prog.funcs[f]? = some fn) :
    false = Tryd.pinned.checked.prog.looks [] ∧ ∀ (j : Nat) t, fn.params[j]? = some t → Tryd.pinned.checked.prog.wantsStandIn t = false := by
  obtain rfl : f = 11 := Option.some.inj ((show Tryd.prog.funcNamed "warder/warderlaw03.TextsYears" = some 11 by kernel_rfl).symm.trans hf) |>.symm
  obtain rfl : fn = Tryd.f11 := (Option.some.inj (Tryd.func11.symm.trans hfn)).symm
  refine ⟨by kernel_rfl, fun j t ht => ?_⟩
  rw [Tryd.params11] at ht
  match j, ht with
    | 0, ht => obtain rfl : t = 2 := (Option.some.inj ht).symm; exact (show Tryd.prog.wantsStandIn 2 = false by kernel_rfl)
    | j + 1, ht => simp at ht

theorem proved : Rows.TextsYearsCardSaid :=
  Claim7.holds_tied_plain_at .later [] _ _ _ _ over (fun _ h => by cases h) (by kernel_rfl) (fun _ h => by cases h) textsYears_row_tie rfl ⟨rfl, rfl⟩ (by kernel_rfl) rfl plain (by kernel_rfl)
#print axioms proved
end Go.Proofs.YtajiolcdjjkedaaDoor.textsYears
