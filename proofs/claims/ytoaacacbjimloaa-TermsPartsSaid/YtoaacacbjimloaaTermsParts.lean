/- The law TermsParts of warderlaw05 answers true for every term, and leaves its argument as it was; no condition. -/
import Derived.Test.YtoaacacbjimloaaRows
import Derived.WalkKit
import Derived.ProofKit
import Derived.OpenShut
import Derived.ChangeOld
import Derived.Below
import Derived.SizedLaws
import Derived.Test.YtoaacacbjimloaaTlvO
import Derived.Test.YtoaacacbjimloaaTmOp
import Derived.Test.YtoaacacbjimloaaTmL
import Derived.Deep.LoopGhost
namespace Go.Proofs.Ytoaacacbjimloaa.termsParts
open Go.ChangeShapes Go.WideShapes Go.ChangeAt Go.RowKit
set_option linter.unusedVariables false

theorem own : ownKnob Try.prog.godebug = none := by kernel_rfl
theorem laidOut : laidOutB Try.prog = true := by kernel_rfl

open Go.Proofs.Ytoaacacbjimloaa.tlvc Go.Proofs.Ytoaacacbjimloaa.tmc

set_option maxRecDepth 100000 in
set_option maxHeartbeats 8000000 in
theorem walk (n0 : tmc.Tm) (c0_0 c0_1 c0_2 c0_3 : Value) (w : World) (w0 : tmc.TmC (fun _ => True) w n0 c0_0 c0_1 c0_2 c0_3) (y0 : tmc.fitD n0) :
    Calls Try.prog 8 #[.agg #[c0_0, c0_1, c0_2, c0_3]] w fun e w' => e = .returned (.bool true) ∧ Below w.heap.size w w' := by
  obtain ⟨op, nm, dd, ks⟩ := n0
  obtain ⟨o0, m0, A0, la0, ca0, K0, lk0, ck0, rfl, rfl, rfl, rfl⟩ := w0.shape
  obtain ⟨W0, hW0⟩ : ∃ y, w.alloc (.cells #[.int .i64 o0, .int .i64 m0, .slice A0 la0 ca0, .slice K0 lk0 ck0] 26) = y := ⟨_, rfl⟩
  have hb0 : Below w.heap.size w W0 := by rw [← hW0]; exact below_new _ _
  have hq0 : W0.heap[w.heap.size]? = some (.cells #[.int .i64 o0, .int .i64 m0, .slice A0 la0 ca0, .slice K0 lk0 ck0] 26) := by rw [← hW0]; exact heap_new_ _ _
  have hk0 := TmC.below hb0 _ _ _ _ _ w0
  have hbox : ∀ W, Lat W0 W → W.cell? ⟨w.heap.size, 0, none⟩ = some (.int .i64 o0) ∧ W.cell? ⟨w.heap.size, 1, none⟩ = some (.int .i64 m0) ∧ W.cell? ⟨w.heap.size, 2, none⟩ = some (.slice A0 la0 ca0) ∧ W.cell? ⟨w.heap.size, 3, none⟩ = some (.slice K0 lk0 ck0) ∧ Lat W0 W := fun W hW => by
    obtain ⟨a0, b0, c0, d0⟩ := hW.box hq0
    exact ⟨a0, b0, c0, d0, hW⟩
  have hgreat := fun W (hW : Lat W0 W) => great_any (fun _ => True) (.mk op nm dd ks) (.agg #[.int .i64 o0, .int .i64 m0, .slice A0 la0 ca0, .slice K0 lk0 ck0]) W ⟨_, _, _, _, rfl, hW.tm hk0⟩
  have hbound : greatB (.mk op nm dd ks) = false → szT (.mk op nm dd ks) ≤ 1000000 := fun h => by have := great_no h; omega
  have hright := fun W (hW : Lat W0 W) => right_any (.mk op nm dd ks) (fun _ => True) (.agg #[.int .i64 o0, .int .i64 m0, .slice A0 la0 ca0, .slice K0 lk0 ck0]) W ⟨_, _, _, _, rfl, hW.tm hk0⟩
  have hsize := fun (hs : szT (.mk op nm dd ks) ≤ 1000000) W (hW : Lat W0 W) => size_any _ (.mk op nm dd ks) (Nat.le_refl _) hs (.agg #[.int .i64 o0, .int .i64 m0, .slice A0 la0 ca0, .slice K0 lk0 ck0]) W ⟨_, _, _, _, rfl, hW.tm hk0⟩
  obtain ⟨hlen, hlc, hck9, _⟩ := kid_at hk0
  have hkid := fun W (hW : Lat W0 W) => (kid_at (hW.tm hk0)).2.2.2
  have hrk : rightF (.mk op nm dd ks) 0 = true → ∀ i k, ks[i]? = some k → rightF k 0 = true := fun h i k hk => right_kids h (List.mem_of_getElem? hk)
  have hsz : szT (.mk op nm dd ks) = szTs ks + 1 := szT_mk _ _ _ _
  have hall : szTs (ks.take lk0) = szTs ks := by rw [List.take_of_length_le (by omega)]
  obtain ⟨G, hG⟩ : ∃ y, greatB (.mk op nm dd ks) = y := ⟨_, rfl⟩
  obtain ⟨R, hR⟩ : ∃ y, rightF (.mk op nm dd ks) 0 = y := ⟨_, rfl⟩
  obtain ⟨Z, hZ⟩ : ∃ y, szT (.mk op nm dd ks) = y := ⟨_, rfl⟩
  rw [hG] at hgreat hbound
  rw [hR] at hright hrk
  rw [hZ] at hbound hsize hsz
  have HBOX := Lib.hid hbox
  have HG := Lib.hid hgreat
  have HR := Lib.hid hright
  have HBD := Lib.hid hbound
  have HS := Lib.hid hsize
  have HKID := Lib.hid hkid
  have HRK := Lib.hid hrk
  have HSZ := Lib.hid hsz
  have HALL := Lib.hid hall
  have HB0 := Lib.hid hb0
  clear hbox hgreat hright hbound hsize hkid hrk hsz hall hb0 hG hR hZ hq0 hk0 w0 hlen
  go_enter Try.func8, Try.ntmps8
  go_wp2_with fail
  clear hW0
  refine (head_any W0).mono ?_
  rintro e wa ⟨rfl, hba⟩
  have HLA : Lat W0 wa := hba
  obtain ⟨k0, k1, k2, k3, _⟩ := HBOX.out wa HLA
  have HL := Lib.hid HLA
  clear hba HLA
  go_wp2_with fail
  refine (HG.out wa HL.out).mono ?_
  rintro e wb ⟨rfl, hbb⟩
  have hLb := HL.out.then_ hbb
  clear hbb HL k0 k1 k2 k3
  cases G with
  | true =>
    have hend := hLb.below HB0.out
    clear hLb
    go_wp2
    go_ret
    exact ⟨rfl, hend⟩
  | false =>
    have hs := HS.out (HBD.out rfl)
    have hz6 := HBD.out rfl
    have hzz := HSZ.out
    have HS2 := Lib.hid hs
    obtain ⟨k0, k1, k2, k3, _⟩ := HBOX.out wb hLb
    have HLb := Lib.hid hLb
    have HZ6 := Lib.hid hz6
    clear hs HS HBD hLb hz6 hzz
    go_wp2_with fail
    go_loopg [4, 5] (lk0 + 1) (fun gk s4 s5 wx => ∃ (i : Nat), s4 = .int .i64 ((1 + szTs (ks.take i) : Nat) : Int) ∧ s5 = .int .i64 i ∧ i ≤ lk0 ∧ lk0 - i < gk ∧ Hid (Lat W0 wx))
    case atStart => exact ⟨0, by rw [List.take_zero, show szTs [] = 0 by unfold szTs; rfl]; rfl, rfl, by omega, by omega, HLb⟩
    case round =>
      obtain ⟨i, rfl, rfl, hi, hgk, HW⟩ := hrel
      obtain ⟨q0, q1, q2, q3, _⟩ := HBOX.out wr HW.out
      by_cases hlt : i < lk0
      · have hltz : (i : Int) < (lk0 : Int) := by omega
        obtain ⟨gk', rfl⟩ : ∃ g', gk = g' + 1 := ⟨gk - 1, by omega⟩
        obtain ⟨k, g, off, d0, d1, d2, d3, hki, rfl, e0, e1, e2, e3, hd⟩ := HKID.out wr HW.out i hlt
        have htk := szTs_take hki
        have hle := szTs_take_le ks (i + 1)
        have hz6 := HZ6.out
        have hzz := HSZ.out
        have hsk := size_any _ k (Nat.le_refl _) (by omega) (.agg #[d0, d1, d2, d3]) wr ⟨_, _, _, _, rfl, hd⟩
        have hrk := HRK.out
        obtain ⟨z, hz⟩ : ∃ y, szT k = y := ⟨_, rfl⟩
        rw [hz] at htk hsk
        obtain ⟨s, hs⟩ : ∃ y, szTs (ks.take i) = y := ⟨_, rfl⟩
        rw [hs] at htk ⊢
        have hrc := fun W (hW : Lat wr W) => right_any k (fun _ => True) (.agg #[d0, d1, d2, d3]) W ⟨_, _, _, _, rfl, hW.tm hd⟩
        have hcl := fun W (hW : Lat wr W) => (⟨box_kid hW e0, box_kid hW e1, box_kid hW e2, box_kid hW e3⟩ : W.cell? ⟨g, off + i * 4, none⟩ = some d0 ∧ W.cell? ⟨g, off + i * 4 + 1, none⟩ = some d1 ∧ W.cell? ⟨g, off + i * 4 + 2, none⟩ = some d2 ∧ W.cell? ⟨g, off + i * 4 + 3, none⟩ = some d3)
        have hw1 : IntKind.i64.wrap (((1 + s : Nat) : Int) + (z : Int)) = ((1 + (s + z) : Nat) : Int) := by rw [IntWalk.i64_in _ (by omega)]; omega
        have b1 : ((1 + s : Nat) : Int) ≤ 2000000 := by omega
        have b2 : (0 : Int) ≤ ((1 + s : Nat) : Int) := by omega
        have b3 : (z : Int) ≤ 2000000 := by omega
        have hsum : ((1 + s : Nat) : Int) + (z : Int) = ((1 + (s + z) : Nat) : Int) := by omega
        obtain ⟨S, hS⟩ : ∃ y, ((1 + s : Nat) : Int) = y := ⟨_, rfl⟩
        obtain ⟨S2, hS2⟩ : ∃ y, ((1 + (s + z) : Nat) : Int) = y := ⟨_, rfl⟩
        rw [hS] at hw1 b1 b2 hsum ⊢
        rw [hS2] at hw1 hsum
        have HSK := Lib.hid hsk
        have HRC := Lib.hid hrc
        have HCL := Lib.hid hcl
        have HKI := Lib.hid hki
        have HTK := Lib.hid htk
        have HS2' := Lib.hid hS2
        clear hsk hrc hcl hki htk hle hz6 hzz hrk hz hs hd hS hS2 hw1
        go_wp2_with fail
        refine HSK.out.mono ?_
        rintro e w1 ⟨rfl, hb1⟩
        have hL1 : Lat wr w1 := hb1
        have hM1 : Lat W0 w1 := HW.out.then_ hb1
        obtain ⟨t0, t1, t2, t3, _⟩ := HBOX.out w1 hM1
        have hrr := HR.out w1 hM1
        have HRR := Lib.hid hrr
        have HL1 := Lib.hid hL1
        have HM1 := Lib.hid hM1
        clear hrr hL1 hM1 hb1 q0 q1 q2 q3 e0 e1 e2 e3 HSK
        go_wp2_with fail
        refine HRR.out.mono ?_
        rintro e w2 ⟨rfl, hb2⟩
        have hL2 : Lat wr w2 := HL1.out.then_ hb2
        have hM2 : Lat W0 w2 := HM1.out.then_ hb2
        clear HRR hb2 t0 t1 t2 t3 HL1 HM1
        cases R with
        | false =>
          have HM2 := Lib.hid hM2
          clear hL2 hM2
          go_wp2
          go_roundg gk'
          case measure => omega
          case rel => exact ⟨i + 1, by rw [HTK.out, HS2'.out], by go_num, by omega, by omega, HM2⟩
        | true =>
          obtain ⟨t0, t1, t2, t3, _⟩ := HBOX.out w2 hM2
          obtain ⟨e0, e1, e2, e3⟩ := HCL.out w2 hL2
          have hrk := HRC.out w2 hL2
          rw [HRK.out rfl i k HKI.out] at hrk
          have HRK2 := Lib.hid hrk
          have HM2 := Lib.hid hM2
          clear hrk hM2 hL2
          go_wp2_with fail
          refine HRK2.out.mono ?_
          rintro e w3 ⟨rfl, hb3⟩
          have hM3 : Lat W0 w3 := HM2.out.then_ hb3
          have HM3 := Lib.hid hM3
          clear hb3 hM3 HRK2 HM2 t0 t1 t2 t3 e0 e1 e2 e3
          go_wp2
          go_roundg gk'
          case measure => omega
          case rel => exact ⟨i + 1, by rw [HTK.out, HS2'.out], by go_num, by omega, by omega, HM3⟩
      · have hltz : ¬ (i : Int) < (lk0 : Int) := by omega
        obtain rfl : i = lk0 := by omega
        have hall := HALL.out
        have hzz := HSZ.out
        have hst : ((1 + szTs (ks.take i) : Nat) : Int) = (Z : Int) := by rw [hall]; omega
        rw [hst]
        have hs3 := HS2.out wr HW.out
        have HS3 := Lib.hid hs3
        clear hs3 hst hzz hall
        go_wp2_with fail
        refine HS3.out.mono ?_
        rintro e w4 ⟨rfl, hb4⟩
        have hend := (HW.out.then_ hb4).below HB0.out
        clear hb4 q0 q1 q2 q3 HS3
        go_wp2
        go_ret
        exact ⟨rfl, hend⟩

set_option maxRecDepth 100000 in
theorem lifted (os : Os) (started : os.Started) (H : Type) (enc : TypeId × Value → H) :
    ReturnsInHanded {} Try.checked os 8 .any (Rows.termsPartsSpec.pre6 enc Try.prog Try.f8 Rows.termsPartsRow.domain false) (Rows.termsPartsSpec.post enc Try.prog Try.f8 false true false false) := by
  refine returnsInHanded_of_change_sized (C := Try.checked) own started (by kernel_rfl) Try.func8
    (ChangeSpec.witness6 (enc := enc) (C := Try.checked) false ⟨#[], #[.agg #[.int .i64 0, .int .i64 0, .slice none 0 0, .slice none 0 0]], []⟩ 8 (by kernel_rfl) (by kernel_rfl) (by kernel_rfl) (by kernel_rfl)) ?_
  intro W base args ds gs before hval0 hW hcnd hsz0 _
  have hval : ∀ (j : Nat) t v, Try.f8.params[j]? = some t → args[j]? = some v → Value.okWide Try.prog W .any base t v := hval0
  have hW' := hW
  obtain ⟨p, q, hA0, hV, rfl, hfz, hnd⟩ := hW
  have hA : DataW.TrodAll enc Try.prog W 0 (fun _ => true) true Try.f8.params.toList args.toList ds p := hA0
  have hsz : (DataW.weightsEach Try.prog (Try.f8.params.toList ++ Rows.termsPartsSpec.plain.varTypes Try.prog) (ds ++ gs)).all (· ≤ reachBytes) = true := hsz0
  rw [Try.params8] at hA hval hsz
  obtain ⟨v0, vs0, d0, ds0, p0, q0, hargs, rfl, rfl, h0, r_0⟩ := trodAll_cons hA
  obtain ⟨rfl, rfl, rfl⟩ := trodAll_nil r_0
  obtain rfl : args = #[v0] := by cases args; simp_all
  obtain ⟨rfl, rfl⟩ := trodVars_none hV
  have k0 := h0
  have lt0 : ∀ x ∈ p0, x.block < W.heap.size := by obtain ⟨m, hm⟩ := k0; exact DataW.trod_lt m _ _ _ hm
  obtain ⟨n0, c0_0, c0_1, c0_2, c0_3, rfl, w0, z0⟩ := tmc.open_tm ({ U := _, f0 := _, f1 := _, f2 := _, f3 := _, hT := Try.underlying26, hone := by kernel_rfl, hC := by kernel_rfl, e0 := Try.underlying22, e1 := Try.underlying2, e2 := Try.underlying23, eU := Try.underlying5, cU := by kernel_rfl, bU := by kernel_rfl, e3 := Try.underlying24 }) (hval 0 26 v0 rfl rfl) h0
  have y0 := z0 (tmc.each_fit hsz (j := 0) rfl rfl)
  clear hA0 hval0
  refine (walk n0 c0_0 c0_1 c0_2 c0_3 W w0 y0).mono fun e W' ⟨he, bel⟩ => ?_
  subst he
  exact ⟨_, rfl, _, _, _, [], _, [], hW', trodAll_mk1 (shut_bool Try.underlying4 _), (trodAll_cons_mk (Below.trod laidOut (by kernel_rfl) (of_decide_eq_true (by kernel_rfl)) k0 bel lt0) trodAll_mk0), rfl, bel.frame _, fun h => by cases h⟩

theorem over : Rows.termsPartsRow.holds Try.pinned (OpenSpec.ofChange Rows.termsPartsSpec) :=
  OpenClaim.holds_of_wide 8 Try.f8 rfl rfl rfl rfl rfl rfl rfl ⟨rfl, rfl, rfl, rfl, rfl⟩ rfl rfl rfl rfl rfl (by kernel_rfl) Try.func8 (by kernel_rfl)
    (of_decide_eq_true (by kernel_rfl)) (by unfold Func.isWrapper; first | (rw [if_pos (by decide +kernel)]; kernel_rfl) | (rw [if_neg (by decide +kernel)]; exact ⟨rfl, rfl⟩))
    (fun os started H enc _ => lifted os started H enc)

theorem proved : Rows.TermsPartsSaid := over
#print axioms proved
end Go.Proofs.Ytoaacacbjimloaa.termsParts
