/- The law TlvSizes of warderlaw01 answers true for every tag and every body, and leaves its arguments as they were; no condition. -/
import Derived.Test.YtpfdebelpfcofaaRows
import Derived.WalkKit
import Derived.ProofKit
import Derived.OpenShut
import Derived.ChangeOld
import Derived.Below
import Derived.SizedLaws
import Derived.Test.YtpfdebelpfcofaaTlvO
import Derived.Test.YtpfdebelpfcofaaTlvM
namespace Go.Proofs.Ytpfdebelpfcofaa.tlvSizes
open Go.ChangeShapes Go.WideShapes Go.ChangeAt Go.RowKit
set_option linter.unusedVariables false

theorem own : ownKnob Try.prog.godebug = none := by kernel_rfl
theorem laidOut : laidOutB Try.prog = true := by kernel_rfl

open Go.Proofs.Ytpfdebelpfcofaa.tlvc in
set_option maxRecDepth 100000 in
set_option maxHeartbeats 1000000 in
theorem sizes_ok (a0 : Int) (a1 : Option Addr) (len1 cap1 : Nat) (xs : List Int) (w : World) (k : Nat) (hk : k = 1 + (hdr xs.length).length) (h0 : 0 ≤ a0) (h255 : a0 ≤ 255) (ht : endlessB a0 = false) (hn : len1 ≤ 65535) (hb : Bys w a1 len1 xs)
    (hkn : (k = 2 ∧ len1 < 128) ∨ (k = 3 ∧ 128 ≤ len1 ∧ len1 ≤ 255) ∨ (k = 4 ∧ 256 ≤ len1)) :
    Calls Try.prog 7 #[.int .u8 a0, .slice a1 len1 cap1] w fun e w' => e = .returned (.bool true) ∧ Below w.heap.size w w' := by
  have hl := hb.len
  have hL : (putBytes a0 xs).length = k + len1 := by rw [put_len, hk, hl]
  have HL := Lib.hid hL
  have Hl := Lib.hid hl
  have Hk := Lib.hid hk
  clear hl hL hk
  go_enter Try.func7, Try.ntmps7
  go_wp2_with fail
  refine (head_any _).mono ?_
  rintro e w1 ⟨rfl, hb1⟩
  have hx := hb.below hb1
  go_wp2_with fail
  refine (put_ok _ _ _ _ xs _ ht h0 h255 hn hx).mono ?_
  unfold PutPost
  rw [HL.out]
  rintro e w2 ⟨g, cap, rfl, hown, hbb, hb2⟩
  have hB := hb1.trans (hb2.mono hb1.size)
  have hc0 : w2.cell? ⟨g, 0, none⟩ = some (.int .u8 a0) := by rw [bys_cell0 hbb 0 (by omega), put_zero]
  have hs2 := str_all (hx.below hb2) cap1
  have hcapk : k + len1 ≤ cap := own_cap hown
  have htail := bys_tail hbb Hk.out
  have hs1 : ∀ q, (convert 22 9 (.slice (if cap = k then some ⟨g, 0, none⟩ else some ⟨g, k, none⟩) len1 (cap - k))).run Try.prog (w2.drewN q) = .ok (.string (strOfNums xs)) (w2.drewN q) := by
    split
    · rename_i hc
      have h0 : len1 = 0 := by omega
      have hx0 : xs = [] := List.eq_nil_of_length_eq_zero (by have := Hl.out; omega)
      subst h0 hx0
      exact str_all (Bys.nil_ w2 _) _
    · have := str_all htail (cap - k)
      rwa [Hl.out] at this
  clear hown hbb htail hx hb1 hb2 hb
  rcases hkn with ⟨rfl, h1⟩ | ⟨rfl, h1, h2⟩ | ⟨rfl, h1⟩
  · go_wp2_with fail
    have hp0 : (0 : Int) < 2 + (len1 : Int) := by omega
    have hp1 : (0 : Nat) < 2 + len1 := by omega
    have hp2 : (2 : Int) ≤ 2 + (len1 : Int) := by omega
    go_quiet (fail)
    go_wp2
    all_goals
      go_ret
      exact ⟨rfl, below_drewN hB _⟩
  · go_wp2_with fail
    have hp0 : (0 : Int) < 3 + (len1 : Int) := by omega
    have hp1 : (0 : Nat) < 3 + len1 := by omega
    have hp2 : (3 : Int) ≤ 3 + (len1 : Int) := by omega
    have hw : IntKind.i64.wrap (3 + (len1 : Int)) = 3 + (len1 : Int) := IntWalk.i64_in _ (by omega)
    go_quiet (fail)
    go_wp2
    all_goals
      go_ret
      exact ⟨rfl, below_drewN hB _⟩
  · go_wp2_with fail
    have hp0 : (0 : Int) < 4 + (len1 : Int) := by omega
    have hp1 : (0 : Nat) < 4 + len1 := by omega
    have hp2 : (4 : Int) ≤ 4 + (len1 : Int) := by omega
    have hw : IntKind.i64.wrap (4 + (len1 : Int)) = 4 + (len1 : Int) := IntWalk.i64_in _ (by omega)
    go_quiet (fail)
    go_wp2
    all_goals
      go_ret
      exact ⟨rfl, below_drewN hB _⟩

set_option maxRecDepth 100000 in
set_option maxHeartbeats 1000000 in
theorem walk (a0 : Int) (a1 : Option Addr) (len1 cap1 : Nat) (x1 : List Int) (w : World) (w0 : (Lit.int .u8 a0).wf = true) (w1 : tlvc.Bys w a1 len1 x1) (l1 : len1 ≤ cap1) (r1 : cap1 ≤ 140737488351232) :
    Calls Try.prog 7 #[.int .u8 a0, .slice a1 len1 cap1] w fun e w' => e = .returned (.bool true) ∧ Below w.heap.size w w' := by
  have hb := w1
  have hf := bounds_u8 w0
  clear w0
  by_cases ht : tlvc.endlessB a0 = true
  · go_enter Try.func7, Try.ntmps7
    go_wp2_with fail
    refine (tlvc.head_any _).mono ?_
    rintro e w1 ⟨rfl, hb1⟩
    go_wp2_with fail
    refine (tlvc.put_tag _ _ _ _ _ ht).mono ?_
    rintro e w2 ⟨rfl, rfl⟩
    go_wp2_with fail
    go_ret
    exact ⟨rfl, hb1⟩
  · have ht' : tlvc.endlessB a0 = false := by simpa using ht
    by_cases hn : 65535 < len1
    · go_enter Try.func7, Try.ntmps7
      go_wp2_with fail
      refine (tlvc.head_any _).mono ?_
      rintro e w1 ⟨rfl, hb1⟩
      go_wp2_with fail
      refine (tlvc.put_many _ _ _ _ _ ht' hn).mono ?_
      rintro e w2 ⟨rfl, rfl⟩
      go_wp2_with fail
      go_ret
      exact ⟨rfl, hb1⟩
    · refine sizes_ok a0 a1 len1 cap1 x1 w _ rfl hf.1 hf.2 ht' (by omega) hb ?_
      rw [hb.len]
      have := tlvc.hdr_n len1 (by omega)
      omega

set_option maxRecDepth 100000 in
theorem lifted (os : Os) (started : os.Started) (H : Type) (enc : TypeId × Value → H) :
    ReturnsInHanded {} Try.checked os 7 .any (Rows.tlvSizesSpec.pre6 enc Try.prog Try.f7 Rows.tlvSizesRow.domain false) (Rows.tlvSizesSpec.post enc Try.prog Try.f7 false true false false) := by
  refine returnsInHanded_of_change_sized (C := Try.checked) own started (by kernel_rfl) Try.func7
    (ChangeSpec.witness6 (enc := enc) (C := Try.checked) false ⟨#[], #[.int .u8 0, .slice none 0 0], []⟩ 8 (by kernel_rfl) (by kernel_rfl) (by kernel_rfl) (by kernel_rfl)) ?_
  intro W base args ds gs before hval0 hW hcnd hsz0 _
  have hval : ∀ (j : Nat) t v, Try.f7.params[j]? = some t → args[j]? = some v → Value.okWide Try.prog W .any base t v := hval0
  have hW' := hW
  obtain ⟨p, q, hA0, hV, rfl, hfz, hnd⟩ := hW
  have hA : DataW.TrodAll enc Try.prog W 0 (fun _ => true) true Try.f7.params.toList args.toList ds p := hA0
  have hsz : (DataW.weightsEach Try.prog (Try.f7.params.toList ++ Rows.tlvSizesSpec.plain.varTypes Try.prog) (ds ++ gs)).all (· ≤ reachBytes) = true := hsz0
  rw [Try.params7] at hA hval hsz
  obtain ⟨v0, vs0, d0, ds0, p0, q0, hargs, rfl, rfl, h0, r_0⟩ := trodAll_cons hA
  obtain ⟨v1, vs1, d1, ds1, p1, q1, rfl, rfl, rfl, h1, r_1⟩ := trodAll_cons r_0
  obtain ⟨rfl, rfl, rfl⟩ := trodAll_nil r_1
  obtain rfl : args = #[v0, v1] := by cases args; simp_all
  obtain ⟨rfl, rfl⟩ := trodVars_none hV
  obtain ⟨a0, rfl, rfl, rfl, w0⟩ := open_int Try.underlying5 (hval 0 5 v0 rfl rfl) h0
  obtain ⟨a1, len1, cap1, rfl⟩ := okWide_slice Try.underlying22 (hval 1 22 v1 rfl rfl)
  have k1 := h1
  have lt1 : ∀ x ∈ p1, x.block < W.heap.size := by obtain ⟨m, hm⟩ := k1; exact DataW.trod_lt m _ _ _ hm
  obtain ⟨x1, w1, l1, m1, s1⟩ := tlvc.open_bys Try.underlying22 Try.underlying5 (by kernel_rfl) h1
  have r1 := tlvc.spots_reach hsz s1 (j := 1) rfl rfl Try.underlying22 (of_decide_eq_true (by kernel_rfl))
  clear hA0 hval0
  refine (walk a0 a1 len1 cap1 x1 W w0 w1 l1 r1).mono fun e W' ⟨he, bel⟩ => ?_
  subst he
  exact ⟨_, rfl, _, _, _, [], _, [], hW', trodAll_mk1 (shut_bool Try.underlying4 _), (trodAll_cons_mk (shut_int Try.underlying5 w0) (trodAll_cons_mk (Below.trod laidOut (by kernel_rfl) (of_decide_eq_true (by kernel_rfl)) k1 bel lt1) trodAll_mk0)), rfl, bel.frame _, fun h => by cases h⟩

theorem over : Rows.tlvSizesRow.holds Try.pinned (OpenSpec.ofChange Rows.tlvSizesSpec) :=
  OpenClaim.holds_of_wide 7 Try.f7 rfl rfl rfl rfl rfl rfl rfl ⟨rfl, rfl, rfl, rfl, rfl⟩ rfl rfl rfl rfl rfl (by kernel_rfl) Try.func7 (by kernel_rfl)
    (of_decide_eq_true (by kernel_rfl)) (by unfold Func.isWrapper; first | (rw [if_pos (by decide +kernel)]; kernel_rfl) | (rw [if_neg (by decide +kernel)]; exact ⟨rfl, rfl⟩))
    (fun os started H enc _ => lifted os started H enc)

theorem proved : Rows.TlvSizesSaid := over
#print axioms proved
end Go.Proofs.Ytpfdebelpfcofaa.tlvSizes
