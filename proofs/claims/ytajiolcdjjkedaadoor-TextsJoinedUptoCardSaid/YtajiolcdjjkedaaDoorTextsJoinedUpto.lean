/- The law TextsJoined of warderlaw03 answers true for every two texts of the size that the second form asks, and leaves its arguments as they were; no condition else but that the library's two tables are as its text lays them. -/
import Derived.Test.YtajiolcdjjkedaaDoorCards
import Derived.Test.YtajiolcdjjkedaaDoorTie
import Derived.WalkKit
import Derived.ProofKit
import Derived.OpenShut
import Derived.ChangeOld
import Derived.Below
import Derived.SizedLaws
import Derived.Test.YtajiolcdjjkedaaDoorTlvO
import Derived.Test.YtajiolcdjjkedaaDoorTxY
import Derived.Test.YtajiolcdjjkedaaDoorTxW
import Derived.Test.YtajiolcdjjkedaaDoorTxR
import Derived.Test.YtajiolcdjjkedaaDoorTxAE
namespace Go.Proofs.YtajiolcdjjkedaaDoor.textsJoinedUpto
open Go.ChangeShapes Go.WideShapes Go.ChangeAt Go.RowKit
set_option linter.unusedVariables false

theorem own : ownKnob Tryd.prog.godebug = none := by kernel_rfl
theorem laidOut : laidOutB Tryd.prog = true := by kernel_rfl

open Go.Proofs.YtajiolcdjjkedaaDoor.tlvc Go.Proofs.YtajiolcdjjkedaaDoor.txc Go.Proofs.YtajiolcdjjkedaaDoor.txm
theorem bytes_nil {l : List UInt8} : (⟨l.toArray⟩ : ByteArray) = ⟨#[]⟩ ↔ l = [] := by
  constructor
  · intro h
    have := congrArg (fun b : ByteArray => b.data.toList) h
    simpa using this
  · intro h; subst h; rfl
theorem list_ne {A : ByteArray} (h : ¬ A = ⟨#[]⟩) : ¬ A.toList = [] := fun e => h (by
  rw [ByteArray.toList_eq] at e
  apply ByteArray.ext
  apply Array.ext'
  exact e)
theorem bytes_app (a b : List UInt8) : (⟨(a ++ b).toArray⟩ : ByteArray) = ⟨a.toArray⟩ ++ ⟨b.toArray⟩ := by
  apply ByteArray.ext
  rw [ByteArray.data_append]
  simp
theorem joinB (a b : ByteArray) : (⟨(prepF (a ++ ⟨#[32]⟩ ++ b)).toArray⟩ : ByteArray) = if (⟨(prepF a).toArray⟩ : ByteArray) = ⟨#[]⟩ then ⟨(prepF b).toArray⟩ else if (⟨(prepF b).toArray⟩ : ByteArray) = ⟨#[]⟩ then ⟨(prepF a).toArray⟩ else ⟨(prepF a).toArray⟩ ++ ⟨#[32]⟩ ++ ⟨(prepF b).toArray⟩ := by
  have e : a ++ ⟨#[32]⟩ ++ b = a ++ (⟨#[32]⟩ ++ b) := ByteArray.append_assoc
  rw [e, prepF_join]
  simp only [bytes_nil]
  split
  · rfl
  · split
    · rfl
    · rw [bytes_app, bytes_app]
theorem prepR_len (rs : List Int) : (prepR rs).length ≤ rs.length := by
  rw [← prep2_eq]
  have h1 := fold2_len (l1 rs) []
  have h2 := l1_len rs
  unfold trimZ
  split
  · rw [List.length_take]; simp at h1; omega
  · simp at h1; omega
theorem prepF_size (s : ByteArray) : (⟨(prepF s).toArray⟩ : ByteArray).size ≤ 4 * s.size := by
  have h1 := enc_len (prepR (runes s))
  have h2 := prepR_len (runes s)
  have h3 : (runes s).length ≤ s.size := runesF_len s _ _
  show (prepF s).toArray.size ≤ _
  rw [List.size_toArray]
  unfold prepF
  omega

set_option maxRecDepth 100000 in
set_option maxHeartbeats 4000000 in
theorem walk (a0 : ByteArray) (a1 : ByteArray) (w : World) (w0 : a0.size ≤ maxLen) (r0 : a0.size ≤ 1048576) (w1 : a1.size ≤ maxLen) (r1 : a1.size ≤ 1048576) (hT : txc.Tabs w) :
    Calls Tryd.prog 10 #[.string a0, .string a1] w fun e w' => e = .returned (.bool true) ∧ Below w.heap.size w w' := by
  have hj := joinB a0 a1
  have s0 := prepF_size a0
  have s1 := prepF_size a1
  obtain ⟨A, hA⟩ : ∃ b : ByteArray, (⟨(prepF a0).toArray⟩ : ByteArray) = b := ⟨_, rfl⟩
  obtain ⟨B, hB⟩ : ∃ b : ByteArray, (⟨(prepF a1).toArray⟩ : ByteArray) = b := ⟨_, rfl⟩
  rw [hA, hB] at hj
  rw [hA] at s0
  rw [hB] at s1
  have HA := Lib.hid hA
  have HB := Lib.hid hB
  have HJ := Lib.hid hj
  have sA : A.size ≤ 4194304 := by omega
  have sB : B.size ≤ 4194304 := by omega
  have sX : (a0 ++ ⟨#[32]⟩ ++ a1).size ≤ 8796093022208 := by rw [ByteArray.size_append, ByteArray.size_append]; show a0.size + 1 + a1.size ≤ _; omega
  have HX := Lib.hid sX
  clear hA hB hj s0 s1 sX
  by_cases h1 : A = ⟨#[]⟩
  · have hx : (⟨(prepF (a0 ++ ⟨#[32]⟩ ++ a1)).toArray⟩ : ByteArray) = B := by rw [HJ.out, if_pos h1]
    have HE := Lib.hid hx
    have hn : (⟨#[]⟩ : ByteArray) ++ B = B := by apply ByteArray.ext; rw [ByteArray.data_append]; simp
    have HN := Lib.hid hn
    subst h1
    clear hx hn HJ
    go_enter Tryd.func10, Tryd.ntmps10
    go_wp2_with fail
    refine (head_any _).mono ?_
    rintro e wa ⟨rfl, hba⟩
    go_wp2_with fail
    refine (prep_any _ _ (by omega)).mono ?_
    rw [HA.out]
    rintro e wb ⟨rfl, hbb⟩
    have hB1 := then_ hba hbb
    clear hba hbb
    go_wp2_with fail
    refine (prep_any _ _ (by omega)).mono ?_
    rw [HB.out]
    rintro e wc ⟨rfl, hbc⟩
    have hB2 := then_ hB1 hbc
    clear hB1 hbc
    go_wp2_with fail
    refine (prep_any _ _ HX.out).mono ?_
    rw [HE.out]
    rintro e wd ⟨rfl, hbd⟩
    have hB3 := then_ hB2 hbd
    have hn := HN.out
    clear hB2 hbd HE HX HA HB HN
    go_wp2
    go_ret
    exact ⟨rfl, hB3⟩
  · have h10 := list_ne h1
    have h1' : (A.toList == []) = false := by simpa using h10
    have h1'' : A.toList.isEmpty = false := by simpa using h10
    by_cases h2 : B = ⟨#[]⟩
    · have hx : (⟨(prepF (a0 ++ ⟨#[32]⟩ ++ a1)).toArray⟩ : ByteArray) = A := by rw [HJ.out, if_neg h1, if_pos h2]
      have HE := Lib.hid hx
      have hn : A ++ (⟨#[]⟩ : ByteArray) = A := by apply ByteArray.ext; rw [ByteArray.data_append]; simp
      have HN := Lib.hid hn
      subst h2
      clear hx hn HJ
      go_enter Tryd.func10, Tryd.ntmps10
      go_wp2_with fail
      refine (head_any _).mono ?_
      rintro e wa ⟨rfl, hba⟩
      go_wp2_with fail
      refine (prep_any _ _ (by omega)).mono ?_
      rw [HA.out]
      rintro e wb ⟨rfl, hbb⟩
      have hB1 := then_ hba hbb
      clear hba hbb
      go_wp2_with fail
      refine (prep_any _ _ (by omega)).mono ?_
      rw [HB.out]
      rintro e wc ⟨rfl, hbc⟩
      have hB2 := then_ hB1 hbc
      clear hB1 hbc
      go_wp2_with fail
      refine (prep_any _ _ HX.out).mono ?_
      rw [HE.out]
      rintro e wd ⟨rfl, hbd⟩
      have hB3 := then_ hB2 hbd
      have hn := HN.out
      clear hB2 hbd HE HX HA HB
      go_wp2
      go_ret
      exact ⟨rfl, hB3⟩
    · have h20 := list_ne h2
      have h2' : (B.toList == []) = false := by simpa using h20
      have h2'' : B.toList.isEmpty = false := by simpa using h20
      have hx : (⟨(prepF (a0 ++ ⟨#[32]⟩ ++ a1)).toArray⟩ : ByteArray) = A ++ ⟨#[32]⟩ ++ B := by rw [HJ.out, if_neg h1, if_neg h2]
      have HE := Lib.hid hx
      clear hx HJ
      go_enter Tryd.func10, Tryd.ntmps10
      go_wp2_with fail
      refine (head_any _).mono ?_
      rintro e wa ⟨rfl, hba⟩
      go_wp2_with fail
      refine (prep_any _ _ (by omega)).mono ?_
      rw [HA.out]
      rintro e wb ⟨rfl, hbb⟩
      have hB1 := then_ hba hbb
      clear hba hbb
      go_wp2_with fail
      refine (prep_any _ _ (by omega)).mono ?_
      rw [HB.out]
      rintro e wc ⟨rfl, hbc⟩
      have hB2 := then_ hB1 hbc
      clear hB1 hbc
      go_wp2_with fail
      refine (prep_any _ _ HX.out).mono ?_
      rw [HE.out]
      rintro e wd ⟨rfl, hbd⟩
      have hB3 := then_ hB2 hbd
      clear hB2 hbd HE HX HA HB
      go_wp2
      go_ret
      exact ⟨rfl, hB3⟩

theorem reads (os : Os) {H : Type} (enc : TypeId × Value → H) : ∃ places, DataW.whole enc Tryd.prog ((txc.laidWorld os).forCall (fun _ _ => 0) ⟨#[], #[.string ⟨#[]⟩, .string ⟨#[]⟩], []⟩).memory Tryd.f10.params.toList Rows.textsJoinedSpec.vars false (#[.string ⟨#[]⟩, .string ⟨#[]⟩] : Array Value).toList 8 = some ([.lit (.string []), .lit (.string [])], [], places) :=
  ⟨[], by kernel_rfl⟩
set_option maxRecDepth 100000 in
theorem lifted (os : Os) (started : os.Started) (H : Type) (enc : TypeId × Value → H) (F : Stop.Interp) :
    ReturnsInHanded {} Tryd.checked os 10 .any ((Rows.OpenSpec.upto Rows.textsJoinedSpec).preRow enc Tryd.prog Tryd.f10 Rows.textsJoinedUptoRow.domain false Rows.textsJoinedUptoRow.laid) (((Rows.OpenSpec.upto Rows.textsJoinedSpec).at F).post enc Tryd.prog Tryd.f10 false true false false) := by
  obtain ⟨places, hx⟩ := reads os enc
  refine returnsInHanded_of_row (C := Tryd.checked) (s := (Rows.OpenSpec.upto Rows.textsJoinedSpec)) own started (by kernel_rfl) Tryd.func10
    (witness_row_at (enc := enc) (C := Tryd.checked) false (txc.laidWorld os) #[.string ⟨#[]⟩, .string ⟨#[]⟩] rfl (by kernel_rfl) (by kernel_rfl) (by kernel_rfl)
      (OpenSpec.preRow_of_cond 8 hx (by kernel_rfl) (fun k hk => by cases hk; kernel_rfl) (by kernel_rfl) (txc.laid_met os _))) ?_
  intro W base args ds gs before hval0 hW hcnd hcond hsz0 hL _ _
  have hval : ∀ (j : Nat) t v, Tryd.f10.params[j]? = some t → args[j]? = some v → Value.okWide Tryd.prog W .any base t v := hval0
  have hW' := hW
  obtain ⟨p, q, hA0, hV, rfl, hfz, hnd⟩ := hW
  have hA : DataW.TrodAll enc Tryd.prog W 0 (fun _ => true) true Tryd.f10.params.toList args.toList ds p := hA0
  have hsz : (DataW.weightsEach Tryd.prog (Tryd.f10.params.toList ++ (Rows.OpenSpec.upto Rows.textsJoinedSpec).bare.plain.varTypes Tryd.prog) (ds ++ gs)).all (· ≤ reachBytes) = true := hsz0
  have hk : Rows.uptoSmall H (ds ++ gs) = true := hcond _ rfl
  rw [Tryd.params10] at hA hval hsz
  obtain ⟨v0, vs0, d0, ds0, p0, q0, hargs, rfl, rfl, h0, r_0⟩ := trodAll_cons hA
  obtain ⟨v1, vs1, d1, ds1, p1, q1, rfl, rfl, rfl, h1, r_1⟩ := trodAll_cons r_0
  obtain ⟨rfl, rfl, rfl⟩ := trodAll_nil r_1
  obtain rfl : args = #[v0, v1] := by cases args; simp_all
  obtain ⟨rfl, rfl⟩ := trodVars_none hV
  obtain ⟨a0, rfl, rfl, rfl, w0⟩ := Go.ChangeMaps.open_string Tryd.underlying9 (hval 0 9 v0 rfl rfl) h0
  have r0 : a0.size ≤ 1048576 := txc.str_small hk (j := 0) rfl
  obtain ⟨a1, rfl, rfl, rfl, w1⟩ := Go.ChangeMaps.open_string Tryd.underlying9 (hval 1 9 v1 rfl rfl) h1
  have r1 : a1.size ≤ 1048576 := txc.str_small hk (j := 1) rfl
  clear hA0 hval0
  have hT : txc.Tabs W := txc.tabs_of hL
  refine (walk a0 a1 W w0 r0 w1 r1 hT).mono fun e W' ⟨he, bel⟩ => ?_
  subst he
  exact ⟨_, rfl, _, _, _, [], _, [], hW', trodAll_mk1 (shut_bool Tryd.underlying4 _), (trodAll_cons_mk (Go.ChangeMaps.shut_string Tryd.underlying9 w0) (trodAll_cons_mk (Go.ChangeMaps.shut_string Tryd.underlying9 w1) trodAll_mk0)), rfl, bel.frame _, fun h => by cases h⟩

theorem over : Rows.textsJoinedUptoRow.holds Tryd.pinned (Rows.OpenSpec.upto Rows.textsJoinedSpec) :=
  OpenClaim.holds_of_cond 10 Tryd.f10 rfl rfl rfl rfl rfl rfl rfl ⟨rfl, rfl, rfl, rfl, rfl⟩ rfl rfl rfl rfl rfl (by kernel_rfl) Tryd.func10 (by kernel_rfl)
    (of_decide_eq_true (by kernel_rfl)) (by unfold Func.isWrapper; first | (rw [if_pos (by decide +kernel)]; kernel_rfl) | (rw [if_neg (by decide +kernel)]; exact ⟨rfl, rfl⟩))
    (fun os started H enc _ F => by rw [OpenClaim.pre_eq_preRow]; exact lifted os started H enc F)

theorem plain (f : FuncId) (fn : Func) (hf : Tryd.pinned.checked.prog.funcNamed "warder/warderlaw03.TextsJoined" = some f) (hfn : Tryd.pinned.checked.prog.funcs[f]? = some fn) :
    false = Tryd.pinned.checked.prog.looks [] ∧ ∀ (j : Nat) t, fn.params[j]? = some t → Tryd.pinned.checked.prog.wantsStandIn t = false := by
  obtain rfl : f = 10 := Option.some.inj ((show Tryd.prog.funcNamed "warder/warderlaw03.TextsJoined" = some 10 by kernel_rfl).symm.trans hf) |>.symm
  obtain rfl : fn = Tryd.f10 := (Option.some.inj (Tryd.func10.symm.trans hfn)).symm
  refine ⟨by kernel_rfl, fun j t ht => ?_⟩
  rw [Tryd.params10] at ht
  match j, ht with
    | 0, ht => obtain rfl : t = 9 := (Option.some.inj ht).symm; exact (show Tryd.prog.wantsStandIn 9 = false by kernel_rfl)
    | 1, ht => obtain rfl : t = 9 := (Option.some.inj ht).symm; exact (show Tryd.prog.wantsStandIn 9 = false by kernel_rfl)
    | j + 2, ht => simp at ht

theorem proved : Rows.TextsJoinedUptoCardSaid :=
  Claim7.holds_tied_plain_at .later [] _ _ _ _ over (fun _ h => by cases h) (by kernel_rfl) (fun _ h => by cases h) textsJoinedUpto_row_tie rfl ⟨rfl, rfl⟩ (by kernel_rfl) rfl plain (by kernel_rfl)
#print axioms proved
end Go.Proofs.YtajiolcdjjkedaaDoor.textsJoinedUpto
