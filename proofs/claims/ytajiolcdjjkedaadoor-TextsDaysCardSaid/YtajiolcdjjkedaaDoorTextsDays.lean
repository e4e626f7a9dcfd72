/- The law TextsDays of warderlaw03 answers true for every number of seconds, and leaves its argument as it was; no condition but that the library's two tables are as its text lays them. -/
import Derived.Test.YtajiolcdjjkedaaDoorCards
import Derived.Test.YtajiolcdjjkedaaDoorTie
import Derived.WalkKit
import Derived.ProofKit
import Derived.OpenShut
import Derived.ChangeOld
import Derived.Below
import Derived.SizedLaws
import Derived.Test.YtajiolcdjjkedaaDoorTlvO
import Derived.Test.YtajiolcdjjkedaaDoorTxY
import Derived.Test.YtajiolcdjjkedaaDoorTxW
import Derived.Test.YtajiolcdjjkedaaDoorTxB2
import Derived.BigQuiet
import Derived.Deep.QuietTactic
namespace Go.Proofs.YtajiolcdjjkedaaDoor.textsDays
open Go.ChangeShapes Go.WideShapes Go.ChangeAt Go.RowKit
set_option linter.unusedVariables false

theorem own : ownKnob Tryd.prog.godebug = none := by kernel_rfl
theorem laidOut : laidOutB Tryd.prog = true := by kernel_rfl

open Go.Proofs.YtajiolcdjjkedaaDoor.tlvc Go.Proofs.YtajiolcdjjkedaaDoor.txc Go.Proofs.YtajiolcdjjkedaaDoor.txm
theorem bys_tail {w : World} {A : Option Addr} {n : Nat} {xs : List Int} {k cap : Nat} (h : Bys w A n xs) (hk : k ≤ n) (hc : n ≤ cap) (hlt : k ≠ cap) : Bys w (A.map (·.add k)) (n - k) (xs.drop k) := by
  have := h.cut hk hc
  rwa [if_neg (fun e => hlt e.symm)] at this

set_option maxRecDepth 100000 in
set_option maxHeartbeats 4000000 in
theorem walk (a0 : Int) (w : World) (w0 : (Lit.int .i64 a0).wf = true) (hT : txc.Tabs w) :
    Calls Tryd.prog 8 #[.int .i64 a0] w fun e w' => e = .returned (.bool true) ∧ Below w.heap.size w w' := by
  go_enter Tryd.func8, Tryd.ntmps8
  go_wp2_with fail
  refine (head_any _).mono ?_
  rintro e wa ⟨rfl, hba⟩
  by_cases h : -631152000 ≤ a0 ∧ a0 ≤ 253402214399
  · have h1 : InR a0 := by unfold InR; omega
    have h2 : InR (a0 + 86400) := by unfold InR; omega
    have hne := body_next h1 h2
    have ht1 := body_tail a0
    have ht2 := body_tail (a0 + 86400)
    rw [tail7_next] at ht2
    have hf1 := body_fit h1
    have hf2 := body_fit h2
    have hl1 := bodyOf_len (s := a0)
    have hl2 := bodyOf_len (s := a0 + 86400)
    obtain ⟨s1, hs1⟩ : ∃ t, tagOf a0 = t := ⟨_, rfl⟩
    obtain ⟨s2, hs2⟩ : ∃ t, tagOf (a0 + 86400) = t := ⟨_, rfl⟩
    obtain ⟨xs, hxs⟩ : ∃ xs, bodyOf a0 = xs := ⟨_, rfl⟩
    obtain ⟨ys, hys⟩ : ∃ ys, bodyOf (a0 + 86400) = ys := ⟨_, rfl⟩
    obtain ⟨zs, hzs⟩ : ∃ zs, tail7 a0 = zs := ⟨_, rfl⟩
    rw [hs1, hs2, hxs, hys] at hne
    rw [hxs, hzs] at ht1
    rw [hys, hzs] at ht2
    rw [hxs] at hf1 hl1
    rw [hys] at hf2 hl2
    have HS1 := Lib.hid hs1
    have HS2 := Lib.hid hs2
    have HX := Lib.hid hxs
    have HY := Lib.hid hys
    clear hs1 hs2 hxs hys hzs
    obtain ⟨n, hn⟩ : ∃ n, xs.length = n := ⟨_, rfl⟩
    obtain ⟨m, hm⟩ : ∃ m, ys.length = m := ⟨_, rfl⟩
    rw [hn] at ht1 hl1
    rw [hm] at ht2 hl2
    have hnn : n = 13 ∨ n = 15 := by rw [hl1]; split <;> omega
    have hmm : m = 13 ∨ m = 15 := by rw [hl2]; split <;> omega
    have HN := Lib.hid hn
    have HM := Lib.hid hm
    have HE := Lib.hid hne
    have HT1 := Lib.hid ht1
    have HT2 := Lib.hid ht2
    clear hn hm hl1 hl2 hne ht1 ht2
    obtain ⟨hr0, hr1⟩ := h
    go_wp2_with fail
    refine (putTime_in _ _ h1).mono ?_
    rw [HS1.out, HX.out]
    rintro e wb ⟨A, c, rfl, hh1, hbb⟩
    have hx := hh1.1
    have hcx := hh1.2.1
    rw [HN.out] at hx hcx ⊢
    have hB := then_ hba hbb
    clear hba hbb hh1
    go_wp2_with fail
    refine (putTime_in _ _ h2).mono ?_
    rw [HS2.out, HY.out]
    rintro e wc ⟨A', c', rfl, hh2, hbc⟩
    have hy := hh2.1
    have hcy := hh2.2.1
    rw [HM.out] at hy hcy ⊢
    have hx2 := hx.below hbc
    have hB2 := then_ hB hbc
    clear hB hbc hh2 hx
    rcases hnn with rfl | rfl <;> rcases hmm with rfl | rfl
    all_goals
      obtain ⟨b1, o1, rfl, hb1, hc1⟩ := hx2.2.2 (by omega)
      obtain ⟨b2, o2, rfl, hb2, hc2⟩ := hy.2.2 (by omega)
      clear hc1 hc2
      go_wp2_with fail
      have u1 := fun q => bys_tail (hx2.drewN q) (k := _ - 7) (Nat.sub_le _ _) hcx (by omega)
      have u2 := fun q => bys_tail (hy.drewN q) (k := _ - 7) (Nat.sub_le _ _) hcy (by omega)
      simp only [HT1.out, HT2.out] at u1 u2
      have k1 := fun q => str_now (u1 q) (c - 6)
      have k1' := fun q => str_now (u1 q) (c - 8)
      have k2 := fun q => str_now (u2 q) (c' - 6)
      have k2' := fun q => str_now (u2 q) (c' - 8)
      have k3 := fun q => str_now (hx2.drewN q) c
      have k4 := fun q => str_now (hy.drewN q) c'
      simp only [Option.map_some, Addr.add_lit, Nat.reduceSub] at k1 k2 k1' k2'
      have g1 : ¬ c = 6 := by omega
      have g2 : ¬ c' = 6 := by omega
      have g3 : ¬ c = 8 := by omega
      have g4 : ¬ c' = 8 := by omega
      have g5 : 6 ≤ c := by omega
      have g6 : 6 ≤ c' := by omega
      have g7 : 8 ≤ c := by omega
      have g8 : 8 ≤ c' := by omega
      have hsame : s1 = s2 → ((strOfNums xs).toList == (strOfNums ys).toList) = false := fun e => sameB_no hf1 hf2 (fun e2 => HE.out ⟨e, e2⟩)
      clear HT1 HT2 HN HM HX HY HS1 HS2 u1 u2
      by_cases hs : s1 = s2
      · have q1 := hsame hs
        have q2 : ((strOfNums xs).toList != (strOfNums ys).toList) = true := by rw [bne, q1]; rfl
        have q3 : (s1 != s2) = false := by simp [hs]
        clear hsame hs
        go_quiet (fail)
        go_wp2
        go_ret
        exact ⟨rfl, below_dN hB2 _⟩
      · have q3 : (s1 != s2) = true := by simp [hs]
        clear hsame hs
        go_quiet (fail)
        go_wp2
        go_ret
        exact ⟨rfl, below_dN hB2 _⟩
  · have hn : ¬ (-631152000 ≤ a0 ∧ a0 ≤ 253402214399) := h
    clear h
    by_cases hl : a0 < -631152000
    · clear hn
      go_wp2
      go_ret
      exact ⟨rfl, hba⟩
    · have hg : 253402214399 < a0 := by omega
      clear hn
      go_wp2
      go_ret
      exact ⟨rfl, hba⟩

theorem reads (os : Os) {H : Type} (enc : TypeId × Value → H) : ∃ places, DataW.whole enc Tryd.prog ((txc.laidWorld os).forCall (fun _ _ => 0) ⟨#[], #[.int .i64 0], []⟩).memory Tryd.f8.params.toList Rows.textsDaysSpec.vars false (#[.int .i64 0] : Array Value).toList 8 = some ([.lit (.int .i64 0)], [], places) :=
  ⟨[], by kernel_rfl⟩
set_option maxRecDepth 100000 in
theorem lifted (os : Os) (started : os.Started) (H : Type) (enc : TypeId × Value → H) (F : Stop.Interp) :
    ReturnsInHanded {} Tryd.checked os 8 .any ((OpenSpec.ofChange Rows.textsDaysSpec).preRow enc Tryd.prog Tryd.f8 Rows.textsDaysRow.domain false Rows.textsDaysRow.laid) (((OpenSpec.ofChange Rows.textsDaysSpec).at F).post enc Tryd.prog Tryd.f8 false true false false) := by
  obtain ⟨places, hx⟩ := reads os enc
  refine returnsInHanded_of_row (C := Tryd.checked) (s := (OpenSpec.ofChange Rows.textsDaysSpec)) own started (by kernel_rfl) Tryd.func8
    (witness_row_at (enc := enc) (C := Tryd.checked) false (txc.laidWorld os) #[.int .i64 0] rfl (by kernel_rfl) (by kernel_rfl) (by kernel_rfl)
      (OpenSpec.preRow_of_cond 8 hx (by kernel_rfl) (fun k hk => by cases hk) (by kernel_rfl) (txc.laid_met os _))) ?_
  intro W base args ds gs before hval0 hW hcnd hcond hsz0 hL _ _
  have hval : ∀ (j : Nat) t v, Tryd.f8.params[j]? = some t → args[j]? = some v → Value.okWide Tryd.prog W .any base t v := hval0
  have hW' := hW
  obtain ⟨p, q, hA0, hV, rfl, hfz, hnd⟩ := hW
  have hA : DataW.TrodAll enc Tryd.prog W 0 (fun _ => true) true Tryd.f8.params.toList args.toList ds p := hA0
  have hsz : (DataW.weightsEach Tryd.prog (Tryd.f8.params.toList ++ (OpenSpec.ofChange Rows.textsDaysSpec).bare.plain.varTypes Tryd.prog) (ds ++ gs)).all (· ≤ reachBytes) = true := hsz0
  rw [Tryd.params8] at hA hval hsz
  obtain ⟨v0, vs0, d0, ds0, p0, q0, hargs, rfl, rfl, h0, r_0⟩ := trodAll_cons hA
  obtain ⟨rfl, rfl, rfl⟩ := trodAll_nil r_0
  obtain rfl : args = #[v0] := by cases args; simp_all
  obtain ⟨rfl, rfl⟩ := trodVars_none hV
  obtain ⟨a0, rfl, rfl, rfl, w0⟩ := open_int Tryd.underlying2 (hval 0 2 v0 rfl rfl) h0
  clear hA0 hval0
  have hT : txc.Tabs W := txc.tabs_of hL
  refine (walk a0 W w0 hT).mono fun e W' ⟨he, bel⟩ => ?_
  subst he
  exact ⟨_, rfl, _, _, _, [], _, [], hW', trodAll_mk1 (shut_bool Tryd.underlying4 _), (trodAll_cons_mk (shut_int Tryd.underlying2 w0) trodAll_mk0), rfl, bel.frame _, fun h => by cases h⟩

theorem over : Rows.textsDaysRow.holds Tryd.pinned (OpenSpec.ofChange Rows.textsDaysSpec) :=
  OpenClaim.holds_of_cond 8 Tryd.f8 rfl rfl rfl rfl rfl rfl rfl ⟨rfl, rfl, rfl, rfl, rfl⟩ rfl rfl rfl rfl rfl (by kernel_rfl) Tryd.func8 (by kernel_rfl)
    (of_decide_eq_true (by kernel_rfl)) (by unfold Func.isWrapper; first | (rw [if_pos (by decide +kernel)]; kernel_rfl) | (rw [if_neg (by decide +kernel)]; exact ⟨rfl, rfl⟩))
    (fun os started H enc _ F => by rw [OpenClaim.pre_eq_preRow]; exact lifted os started H enc F)

theorem plain (f : FuncId) (fn : Func) (hf : Tryd.pinned.checked.prog.funcNamed "warder/warderlaw03.TextsDays" = some f) (hfn : Tryd.pinned.checked.prog.funcs[f]? = some fn) :
    false = Tryd.pinned.checked.prog.looks [] ∧ ∀ (j : Nat) t, fn.params[j]? = some t → Tryd.pinned.checked.prog.wantsStandIn t = false := by
  obtain rfl : f = 8 := Option.some.inj ((show Tryd.prog.funcNamed "warder/warderlaw03.TextsDays" = some 8 by kernel_rfl).symm.trans hf) |>.symm
  obtain rfl : fn = Tryd.f8 := (Option.some.inj (Tryd.func8.symm.trans hfn)).symm
  refine ⟨by kernel_rfl, fun j t ht => ?_⟩
  rw [Tryd.params8] at ht
  match j, ht with
    | 0, ht => obtain rfl : t = 2 := (Option.some.inj ht).symm; exact (show Tryd.prog.wantsStandIn 2 = false by kernel_rfl)
    | j + 1, ht => simp at ht

theorem proved : Rows.TextsDaysCardSaid :=
  Claim7.holds_tied_plain_at .later [] _ _ _ _ over (fun _ h => by cases h) (by kernel_rfl) (fun _ h => by cases h) textsDays_row_tie rfl ⟨rfl, rfl⟩ (by kernel_rfl) rfl plain (by kernel_rfl)
#print axioms proved
end Go.Proofs.YtajiolcdjjkedaaDoor.textsDays
