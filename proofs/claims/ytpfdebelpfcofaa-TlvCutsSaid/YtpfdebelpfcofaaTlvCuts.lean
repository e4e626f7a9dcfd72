/- The law TlvCuts of warderlaw01 answers true for every tag, every body and every cut, and leaves its arguments as they were; no condition. -/
import Derived.Test.YtpfdebelpfcofaaRows
import Derived.WalkKit
import Derived.ProofKit
import Derived.OpenShut
import Derived.ChangeOld
import Derived.Below
import Derived.SizedLaws
import Derived.Test.YtpfdebelpfcofaaTlvO
import Derived.Test.YtpfdebelpfcofaaTlvP
namespace Go.Proofs.Ytpfdebelpfcofaa.tlvCuts
open Go.ChangeShapes Go.WideShapes Go.ChangeAt Go.RowKit
set_option linter.unusedVariables false

theorem own : ownKnob Try.prog.godebug = none := by kernel_rfl
theorem laidOut : laidOutB Try.prog = true := by kernel_rfl

open Go.Proofs.Ytpfdebelpfcofaa.tlvc in
set_option maxRecDepth 100000 in
set_option maxHeartbeats 1000000 in
theorem cuts_ok (a0 : Int) (a1 : Option Addr) (len1 cap1 : Nat) (xs : List Int) (a2 : Int) (w : World) (h0 : 0 ≤ a0 ∧ a0 ≤ 255) (ht : endlessB a0 = false) (hn : len1 ≤ 65535) (hb : Bys w a1 len1 xs) (h2 : 0 ≤ a2 ∧ a2 ≤ 4294967295) :
    Calls Try.prog 6 #[.int .u8 a0, .slice a1 len1 cap1, .int .u32 a2] w fun e w' => e = .returned (.bool true) ∧ Below w.heap.size w w' := by
  have hl := hb.len
  obtain ⟨L, hL⟩ : ∃ L, (putBytes a0 xs).length = L := ⟨_, rfl⟩
  have hLb : 2 ≤ L ∧ L ≤ 65539 := by
    have := hdr_n len1 hn
    rw [put_len, hl] at hL
    omega
  obtain ⟨r, hr⟩ : ∃ r : Nat, a2 % (L : Int) = r := ⟨(a2 % (L : Int)).toNat, by have := Int.emod_nonneg a2 (show (L : Int) ≠ 0 by omega); omega⟩
  have hrL : r < L := by have := Int.emod_lt_of_pos a2 (show (0 : Int) < L by omega); omega
  have hcut := headF_cut a0 xs r ht (by omega) (by omega)
  have HL := Lib.hid hL
  have HC := Lib.hid hcut
  have Hr := Lib.hid hr
  have hne : ((L : Int) == 0) = false := by simp; omega
  clear hl hL hcut hr
  go_enter Try.func6, Try.ntmps6
  go_wp2_with fail
  refine (head_any _).mono ?_
  rintro e w1 ⟨rfl, hb1⟩
  have hx := hb.below hb1
  go_wp2_with fail
  refine (put_ok _ _ _ _ xs _ ht h0.1 h0.2 hn hx).mono ?_
  unfold PutPost
  rw [HL.out]
  rintro e w2 ⟨g, cap, rfl, hown, hbb, hb2⟩
  have hB := hb1.trans (hb2.mono hb1.size)
  have hLc : L ≤ cap := own_cap hown
  have hcm : cap ≤ maxLen := own_max hown
  clear hown hx hb1 hb2 hb
  have hr := Hr.out
  go_wp2_with fail
  clear hr
  refine (headE_any _ r cap ((putBytes a0 xs).take r) 0 _ (hbb.upto (by omega)) (by omega) hcm).mono ?_
  rw [headE_zero, HC.out]
  rintro e w3 ⟨rfl, rfl⟩
  simp only [headR, No]
  go_wp2_with fail
  go_ret
  exact ⟨rfl, hB⟩

set_option maxRecDepth 100000 in
set_option maxHeartbeats 1000000 in
theorem walk (a0 : Int) (a1 : Option Addr) (len1 cap1 : Nat) (x1 : List Int) (a2 : Int) (w : World) (w0 : (Lit.int .u8 a0).wf = true) (w1 : tlvc.Bys w a1 len1 x1) (l1 : len1 ≤ cap1) (r1 : cap1 ≤ 140737488351232) (w2 : (Lit.int .u32 a2).wf = true) :
    Calls Try.prog 6 #[.int .u8 a0, .slice a1 len1 cap1, .int .u32 a2] w fun e w' => e = .returned (.bool true) ∧ Below w.heap.size w w' := by
  have hf := bounds_u8 w0
  have hc32 := bounds_u32 w2
  by_cases ht : tlvc.endlessB a0 = true
  · go_enter Try.func6, Try.ntmps6
    go_wp2_with fail
    refine (tlvc.head_any _).mono ?_
    rintro e w1 ⟨rfl, hb1⟩
    go_wp2_with fail
    refine (tlvc.put_tag _ _ _ _ _ ht).mono ?_
    rintro e w2 ⟨rfl, rfl⟩
    go_wp2_with fail
    go_ret
    exact ⟨rfl, hb1⟩
  · have ht' : tlvc.endlessB a0 = false := by simpa using ht
    by_cases hn : 65535 < len1
    · go_enter Try.func6, Try.ntmps6
      go_wp2_with fail
      refine (tlvc.head_any _).mono ?_
      rintro e w1 ⟨rfl, hb1⟩
      go_wp2_with fail
      refine (tlvc.put_many _ _ _ _ _ ht' hn).mono ?_
      rintro e w2 ⟨rfl, rfl⟩
      go_wp2_with fail
      go_ret
      exact ⟨rfl, hb1⟩
    · exact cuts_ok a0 a1 len1 cap1 x1 a2 w hf ht' (by omega) w1 hc32

set_option maxRecDepth 100000 in
theorem lifted (os : Os) (started : os.Started) (H : Type) (enc : TypeId × Value → H) :
    ReturnsInHanded {} Try.checked os 6 .any (Rows.tlvCutsSpec.pre6 enc Try.prog Try.f6 Rows.tlvCutsRow.domain false) (Rows.tlvCutsSpec.post enc Try.prog Try.f6 false true false false) := by
  refine returnsInHanded_of_change_sized (C := Try.checked) own started (by kernel_rfl) Try.func6
    (ChangeSpec.witness6 (enc := enc) (C := Try.checked) false ⟨#[], #[.int .u8 0, .slice none 0 0, .int .u32 0], []⟩ 8 (by kernel_rfl) (by kernel_rfl) (by kernel_rfl) (by kernel_rfl)) ?_
  intro W base args ds gs before hval0 hW hcnd hsz0 _
  have hval : ∀ (j : Nat) t v, Try.f6.params[j]? = some t → args[j]? = some v → Value.okWide Try.prog W .any base t v := hval0
  have hW' := hW
  obtain ⟨p, q, hA0, hV, rfl, hfz, hnd⟩ := hW
  have hA : DataW.TrodAll enc Try.prog W 0 (fun _ => true) true Try.f6.params.toList args.toList ds p := hA0
  have hsz : (DataW.weightsEach Try.prog (Try.f6.params.toList ++ Rows.tlvCutsSpec.plain.varTypes Try.prog) (ds ++ gs)).all (· ≤ reachBytes) = true := hsz0
  rw [Try.params6] at hA hval hsz
  obtain ⟨v0, vs0, d0, ds0, p0, q0, hargs, rfl, rfl, h0, r_0⟩ := trodAll_cons hA
  obtain ⟨v1, vs1, d1, ds1, p1, q1, rfl, rfl, rfl, h1, r_1⟩ := trodAll_cons r_0
  obtain ⟨v2, vs2, d2, ds2, p2, q2, rfl, rfl, rfl, h2, r_2⟩ := trodAll_cons r_1
  obtain ⟨rfl, rfl, rfl⟩ := trodAll_nil r_2
  obtain rfl : args = #[v0, v1, v2] := by cases args; simp_all
  obtain ⟨rfl, rfl⟩ := trodVars_none hV
  obtain ⟨a0, rfl, rfl, rfl, w0⟩ := open_int Try.underlying5 (hval 0 5 v0 rfl rfl) h0
  obtain ⟨a1, len1, cap1, rfl⟩ := okWide_slice Try.underlying22 (hval 1 22 v1 rfl rfl)
  have k1 := h1
  have lt1 : ∀ x ∈ p1, x.block < W.heap.size := by obtain ⟨m, hm⟩ := k1; exact DataW.trod_lt m _ _ _ hm
  obtain ⟨x1, w1, l1, m1, s1⟩ := tlvc.open_bys Try.underlying22 Try.underlying5 (by kernel_rfl) h1
  have r1 := tlvc.spots_reach hsz s1 (j := 1) rfl rfl Try.underlying22 (of_decide_eq_true (by kernel_rfl))
  obtain ⟨a2, rfl, rfl, rfl, w2⟩ := open_int Try.underlying32 (hval 2 32 v2 rfl rfl) h2
  clear hA0 hval0
  refine (walk a0 a1 len1 cap1 x1 a2 W w0 w1 l1 r1 w2).mono fun e W' ⟨he, bel⟩ => ?_
  subst he
  exact ⟨_, rfl, _, _, _, [], _, [], hW', trodAll_mk1 (shut_bool Try.underlying4 _), (trodAll_cons_mk (shut_int Try.underlying5 w0) (trodAll_cons_mk (Below.trod laidOut (by kernel_rfl) (of_decide_eq_true (by kernel_rfl)) k1 bel lt1) (trodAll_cons_mk (shut_int Try.underlying32 w2) trodAll_mk0))), rfl, bel.frame _, fun h => by cases h⟩

theorem over : Rows.tlvCutsRow.holds Try.pinned (OpenSpec.ofChange Rows.tlvCutsSpec) :=
  OpenClaim.holds_of_wide 6 Try.f6 rfl rfl rfl rfl rfl rfl rfl ⟨rfl, rfl, rfl, rfl, rfl⟩ rfl rfl rfl rfl rfl (by kernel_rfl) Try.func6 (by kernel_rfl)
    (of_decide_eq_true (by kernel_rfl)) (by unfold Func.isWrapper; first | (rw [if_pos (by decide +kernel)]; kernel_rfl) | (rw [if_neg (by decide +kernel)]; exact ⟨rfl, rfl⟩))
    (fun os started H enc _ => lifted os started H enc)

theorem proved : Rows.TlvCutsSaid := over
#print axioms proved
end Go.Proofs.Ytpfdebelpfcofaa.tlvCuts
