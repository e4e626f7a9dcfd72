/- The law TermsLaws of warderlaw05 answers true for every three terms, and leaves its arguments as they were; no condition. -/
import Derived.Test.YtoaacacbjimloaaRows
import Derived.WalkKit
import Derived.ProofKit
import Derived.OpenShut
import Derived.ChangeOld
import Derived.Below
import Derived.SizedLaws
import Derived.Test.YtoaacacbjimloaaTlvO
import Derived.Test.YtoaacacbjimloaaTmOp
import Derived.Test.YtoaacacbjimloaaTmL
import Derived.Deep.DeepCutAuto
import Derived.Deep.RegionHeld3
namespace Go.Proofs.Ytoaacacbjimloaa.termsLaws
open Go.ChangeShapes Go.WideShapes Go.ChangeAt Go.RowKit
set_option linter.unusedVariables false

theorem own : ownKnob Try.prog.godebug = none := by kernel_rfl
theorem laidOut : laidOutB Try.prog = true := by kernel_rfl

open Go.Proofs.Ytoaacacbjimloaa.tlvc Go.Proofs.Ytoaacacbjimloaa.tmc

set_option maxRecDepth 100000 in
set_option maxHeartbeats 64000000 in
theorem walk (n0 : tmc.Tm) (c0_0 c0_1 c0_2 c0_3 : Value) (n1 : tmc.Tm) (c1_0 c1_1 c1_2 c1_3 : Value) (n2 : tmc.Tm) (c2_0 c2_1 c2_2 c2_3 : Value) (w : World) (w0 : tmc.TmC (fun _ => True) w n0 c0_0 c0_1 c0_2 c0_3) (y0 : tmc.fitD n0) (w1 : tmc.TmC (fun _ => True) w n1 c1_0 c1_1 c1_2 c1_3) (y1 : tmc.fitD n1) (w2 : tmc.TmC (fun _ => True) w n2 c2_0 c2_1 c2_2 c2_3) (y2 : tmc.fitD n2) :
    Calls Try.prog 7 #[.agg #[c0_0, c0_1, c0_2, c0_3], .agg #[c1_0, c1_1, c1_2, c1_3], .agg #[c2_0, c2_1, c2_2, c2_3]] w fun e w' => e = .returned (.bool true) ∧ Below w.heap.size w w' := by
  obtain ⟨o0, m0, A0, la0, ca0, K0, lk0, ck0, rfl, rfl, rfl, rfl⟩ := w0.shape
  obtain ⟨o1, m1, A1, la1, ca1, K1, lk1, ck1, rfl, rfl, rfl, rfl⟩ := w1.shape
  obtain ⟨o2, m2, A2, la2, ca2, K2, lk2, ck2, rfl, rfl, rfl, rfl⟩ := w2.shape
  obtain ⟨W0, hW0⟩ : ∃ y, ((w.alloc (.cells #[.int .i64 o0, .int .i64 m0, .slice A0 la0 ca0, .slice K0 lk0 ck0] 26)).alloc (.cells #[.int .i64 o1, .int .i64 m1, .slice A1 la1 ca1, .slice K1 lk1 ck1] 26)).alloc (.cells #[.int .i64 o2, .int .i64 m2, .slice A2 la2 ca2, .slice K2 lk2 ck2] 26) = y := ⟨_, rfl⟩
  have hb0 : Below w.heap.size w W0 := by rw [← hW0]; exact ((below_new _ _).alloc (by simp) _).alloc (by simp; omega) _
  have hq0 : W0.heap[w.heap.size]? = some (.cells #[.int .i64 o0, .int .i64 m0, .slice A0 la0 ca0, .slice K0 lk0 ck0] 26) := by rw [← hW0, heap_old_ _ _ (by simp; omega), heap_old_ _ _ (by simp)]; exact heap_new_ _ _
  have hk0 := TmC.below hb0 _ _ _ _ _ w0
  have hq1 : W0.heap[w.heap.size + 1]? = some (.cells #[.int .i64 o1, .int .i64 m1, .slice A1 la1 ca1, .slice K1 lk1 ck1] 26) := by
    rw [← hW0, heap_old_ _ _ (by simp)]
    have := heap_new_ (w.alloc (.cells #[.int .i64 o0, .int .i64 m0, .slice A0 la0 ca0, .slice K0 lk0 ck0] 26)) (.cells #[.int .i64 o1, .int .i64 m1, .slice A1 la1 ca1, .slice K1 lk1 ck1] 26)
    rwa [show (w.alloc (.cells #[.int .i64 o0, .int .i64 m0, .slice A0 la0 ca0, .slice K0 lk0 ck0] 26)).heap.size = w.heap.size + 1 by simp] at this
  have hk1 := TmC.below hb0 _ _ _ _ _ w1
  have hq2 : W0.heap[w.heap.size + 1 + 1]? = some (.cells #[.int .i64 o2, .int .i64 m2, .slice A2 la2 ca2, .slice K2 lk2 ck2] 26) := by
    rw [← hW0]
    have := heap_new_ ((w.alloc (.cells #[.int .i64 o0, .int .i64 m0, .slice A0 la0 ca0, .slice K0 lk0 ck0] 26)).alloc (.cells #[.int .i64 o1, .int .i64 m1, .slice A1 la1 ca1, .slice K1 lk1 ck1] 26)) (.cells #[.int .i64 o2, .int .i64 m2, .slice A2 la2 ca2, .slice K2 lk2 ck2] 26)
    rwa [show ((w.alloc (.cells #[.int .i64 o0, .int .i64 m0, .slice A0 la0 ca0, .slice K0 lk0 ck0] 26)).alloc (.cells #[.int .i64 o1, .int .i64 m1, .slice A1 la1 ca1, .slice K1 lk1 ck1] 26)).heap.size = w.heap.size + 1 + 1 by simp] at this
  have hk2 := TmC.below hb0 _ _ _ _ _ w2
  have hbox : ∀ W, Lat W0 W → W.cell? ⟨w.heap.size, 0, none⟩ = some (.int .i64 o0) ∧ W.cell? ⟨w.heap.size, 1, none⟩ = some (.int .i64 m0) ∧ W.cell? ⟨w.heap.size, 2, none⟩ = some (.slice A0 la0 ca0) ∧ W.cell? ⟨w.heap.size, 3, none⟩ = some (.slice K0 lk0 ck0) ∧ W.cell? ⟨w.heap.size + 1, 0, none⟩ = some (.int .i64 o1) ∧ W.cell? ⟨w.heap.size + 1, 1, none⟩ = some (.int .i64 m1) ∧ W.cell? ⟨w.heap.size + 1, 2, none⟩ = some (.slice A1 la1 ca1) ∧ W.cell? ⟨w.heap.size + 1, 3, none⟩ = some (.slice K1 lk1 ck1) ∧ W.cell? ⟨w.heap.size + 1 + 1, 0, none⟩ = some (.int .i64 o2) ∧ W.cell? ⟨w.heap.size + 1 + 1, 1, none⟩ = some (.int .i64 m2) ∧ W.cell? ⟨w.heap.size + 1 + 1, 2, none⟩ = some (.slice A2 la2 ca2) ∧ W.cell? ⟨w.heap.size + 1 + 1, 3, none⟩ = some (.slice K2 lk2 ck2) ∧ Lat W0 W := fun W hW => by
    obtain ⟨a0, b0, c0, d0⟩ := hW.box hq0
    obtain ⟨a1, b1, c1, d1⟩ := hW.box hq1
    obtain ⟨a2, b2, c2, d2⟩ := hW.box hq2
    exact ⟨a0, b0, c0, d0, a1, b1, c1, d1, a2, b2, c2, d2, hW⟩
  have hgreat0 := fun W (hW : Lat W0 W) => great_any (fun _ => True) n0 (.agg #[.int .i64 o0, .int .i64 m0, .slice A0 la0 ca0, .slice K0 lk0 ck0]) W ⟨_, _, _, _, rfl, hW.tm hk0⟩
  have hbd0 : greatB n0 = false → szT n0 ≤ 2000 := fun h => great_no h
  obtain ⟨G0, hG0⟩ : ∃ y, greatB n0 = y := ⟨_, rfl⟩
  rw [hG0] at hgreat0 hbd0
  have hgreat1 := fun W (hW : Lat W0 W) => great_any (fun _ => True) n1 (.agg #[.int .i64 o1, .int .i64 m1, .slice A1 la1 ca1, .slice K1 lk1 ck1]) W ⟨_, _, _, _, rfl, hW.tm hk1⟩
  have hbd1 : greatB n1 = false → szT n1 ≤ 2000 := fun h => great_no h
  obtain ⟨G1, hG1⟩ : ∃ y, greatB n1 = y := ⟨_, rfl⟩
  rw [hG1] at hgreat1 hbd1
  have hgreat2 := fun W (hW : Lat W0 W) => great_any (fun _ => True) n2 (.agg #[.int .i64 o2, .int .i64 m2, .slice A2 la2 ca2, .slice K2 lk2 ck2]) W ⟨_, _, _, _, rfl, hW.tm hk2⟩
  have hbd2 : greatB n2 = false → szT n2 ≤ 2000 := fun h => great_no h
  obtain ⟨G2, hG2⟩ : ∃ y, greatB n2 = y := ⟨_, rfl⟩
  rw [hG2] at hgreat2 hbd2
  have hordX := fun W (hW : Lat W0 W) => order_any n0 n1 (fun _ => True) (fun _ => True) (.agg #[.int .i64 o0, .int .i64 m0, .slice A0 la0 ca0, .slice K0 lk0 ck0]) (.agg #[.int .i64 o1, .int .i64 m1, .slice A1 la1 ca1, .slice K1 lk1 ck1]) W ⟨_, _, _, _, rfl, hW.tm hk0⟩ ⟨_, _, _, _, rfl, hW.tm hk1⟩
  have hordY := fun W (hW : Lat W0 W) => order_any n1 n2 (fun _ => True) (fun _ => True) (.agg #[.int .i64 o1, .int .i64 m1, .slice A1 la1 ca1, .slice K1 lk1 ck1]) (.agg #[.int .i64 o2, .int .i64 m2, .slice A2 la2 ca2, .slice K2 lk2 ck2]) W ⟨_, _, _, _, rfl, hW.tm hk1⟩ ⟨_, _, _, _, rfl, hW.tm hk2⟩
  have hordZ := fun W (hW : Lat W0 W) => order_any n0 n2 (fun _ => True) (fun _ => True) (.agg #[.int .i64 o0, .int .i64 m0, .slice A0 la0 ca0, .slice K0 lk0 ck0]) (.agg #[.int .i64 o2, .int .i64 m2, .slice A2 la2 ca2, .slice K2 lk2 ck2]) W ⟨_, _, _, _, rfl, hW.tm hk0⟩ ⟨_, _, _, _, rfl, hW.tm hk2⟩
  have hordT := fun W (hW : Lat W0 W) => order_any n1 n0 (fun _ => True) (fun _ => True) (.agg #[.int .i64 o1, .int .i64 m1, .slice A1 la1 ca1, .slice K1 lk1 ck1]) (.agg #[.int .i64 o0, .int .i64 m0, .slice A0 la0 ca0, .slice K0 lk0 ck0]) W ⟨_, _, _, _, rfl, hW.tm hk1⟩ ⟨_, _, _, _, rfl, hW.tm hk0⟩
  rw [ordT_swap n0 n1] at hordT
  have hsg := ordT_sg n0 n1
  have htri := ordT_tri n0 n1 n2
  obtain ⟨X, hX⟩ : ∃ y, ordT n0 n1 = y := ⟨_, rfl⟩
  obtain ⟨Y, hY⟩ : ∃ y, ordT n1 n2 = y := ⟨_, rfl⟩
  obtain ⟨Z, hZ⟩ : ∃ y, ordT n0 n2 = y := ⟨_, rfl⟩
  rw [hX] at hordX hordT hsg
  rw [hY] at hordY
  rw [hZ] at hordZ
  rw [hX, hY, hZ] at htri
  have hsX := fun W => sign_b X W hsg
  have hsN := fun W => sign_b (-X) W (by unfold Sg at hsg ⊢; omega)
  have hexp : ∀ W, TmC (fun _ => True) W exp0 (.int .i64 7) (.int .i64 0) (.slice none 0 0) (.slice none 0 0) := fun W => tm_leaf _ _ 7 0 (by unfold I64; omega) (by unfold I64; omega)
  have hpowA := fun (hs : szT exp0 + szT n0 ≤ 100000) W (hW : Lat W0 W) => pow_any exp0 n0 (fun _ => True) (fun _ => True) (.agg #[.int .i64 7, .int .i64 0, .slice none 0 0, .slice none 0 0]) (.agg #[.int .i64 o0, .int .i64 m0, .slice A0 la0 ca0, .slice K0 lk0 ck0]) W ⟨_, _, _, _, rfl, hexp W⟩ ⟨_, _, _, _, rfl, hW.tm hk0⟩ hs
  have hpowB := fun (hs : szT exp0 + szT n1 ≤ 100000) W (hW : Lat W0 W) => pow_any exp0 n1 (fun _ => True) (fun _ => True) (.agg #[.int .i64 7, .int .i64 0, .slice none 0 0, .slice none 0 0]) (.agg #[.int .i64 o1, .int .i64 m1, .slice A1 la1 ca1, .slice K1 lk1 ck1]) W ⟨_, _, _, _, rfl, hexp W⟩ ⟨_, _, _, _, rfl, hW.tm hk1⟩ hs
  have hright := fun W (hW : Lat W0 W) => right_any n2 (fun _ => True) (.agg #[.int .i64 o2, .int .i64 m2, .slice A2 la2 ca2, .slice K2 lk2 ck2]) W ⟨_, _, _, _, rfl, hW.tm hk2⟩
  have hnorm := fun (hs : szT n2 ≤ 100000) W (hW : Lat W0 W) => norm_any n2 hs y2 (fun _ => True) (.agg #[.int .i64 o2, .int .i64 m2, .slice A2 la2 ca2, .slice K2 lk2 ck2]) W ⟨_, _, _, _, rfl, hW.tm hk2⟩
  have hnr : rightF n2 0 = true → normF n2 = n2 := fun h => norm_right h
  have hex : szT exp0 = 1 := by unfold exp0; unfold szT szTs; rfl
  have hpa : ∀ P, powF exp0 n0 = some P → szT P = szT n0 + 1 := fun P h => by obtain ⟨_, _, _, rfl, _⟩ := powF_some h; rw [pow0_sz, hex]; omega
  have hpb : ∀ P, powF exp0 n1 = some P → szT P = szT n1 + 1 := fun P h => by obtain ⟨_, _, _, rfl, _⟩ := powF_some h; rw [pow0_sz, hex]; omega
  have htwo : ∀ P Q, powF exp0 n0 = some P → powF exp0 n1 = some Q → powF P n1 = powF Q n0 := fun P Q h k => pow_two h k
  rw [hex] at hpowA hpowB
  obtain ⟨PA, hPA⟩ : ∃ y, powF exp0 n0 = y := ⟨_, rfl⟩
  obtain ⟨PB, hPB⟩ : ∃ y, powF exp0 n1 = y := ⟨_, rfl⟩
  obtain ⟨R, hR⟩ : ∃ y, rightF n2 0 = y := ⟨_, rfl⟩
  rw [hPA] at hpowA hpa htwo
  rw [hPB] at hpowB hpb htwo
  rw [hR] at hright hnr
  have HBOX := Lib.hid hbox
  have HG0 := Lib.hid hgreat0
  have HG1 := Lib.hid hgreat1
  have HG2 := Lib.hid hgreat2
  have HBD0 := Lib.hid hbd0
  have HBD1 := Lib.hid hbd1
  have HBD2 := Lib.hid hbd2
  have HOX := Lib.hid hordX
  have HOY := Lib.hid hordY
  have HOZ := Lib.hid hordZ
  have HOT := Lib.hid hordT
  have HSX := Lib.hid hsX
  have HSN := Lib.hid hsN
  have HPA := Lib.hid hpowA
  have HPB := Lib.hid hpowB
  have HRT := Lib.hid hright
  have HNO := Lib.hid hnorm
  have HNR := Lib.hid hnr
  have HZA := Lib.hid hpa
  have HZB := Lib.hid hpb
  have HTWO := Lib.hid htwo
  have HB0 := Lib.hid hb0
  have HTRI := Lib.hid htri
  have HSG := Lib.hid hsg
  have HK0 := Lib.hid hk0
  have HK1 := Lib.hid hk1
  have HK2 := Lib.hid hk2
  have HY2 := Lib.hid y2
  clear hbox hgreat0 hgreat1 hgreat2 hbd0 hbd1 hbd2 hordX hordY hordZ hordT hsX hsN hpowA hpowB hright hnorm hnr hpa hpb htwo hb0 htri hsg hk0 hk1 hk2 y2 hG0 hG1 hG2 hX hY hZ hPA hPB hR hex hexp hq0 hq1 hq2 w0 w1 w2 y0 y1
  go_enter Try.func7, Try.ntmps7
  go_wp2_with fail
  clear hW0
  refine (head_any W0).mono ?_
  rintro e wa ⟨rfl, hba⟩
  have HLA : Lat W0 wa := hba
  obtain ⟨k0, k1, k2, k3, k4, k5, k6, k7, k8, k9, k10, k11, _⟩ := HBOX.out wa HLA
  have HL := Lib.hid HLA
  clear hba HLA
  go_wp2_with fail
  refine (HG0.out wa HL.out).mono ?_
  rintro e wb0 ⟨rfl, hbb⟩
  have hLb := HL.out.then_ hbb
  clear hbb HL k0 k1 k2 k3 k4 k5 k6 k7 k8 k9 k10 k11
  cases G0 with
  | true =>
    have hend := hLb.below HB0.out
    clear hLb
    go_wp2
    go_ret
    exact ⟨rfl, hend⟩
  | false =>
    obtain ⟨k0, k1, k2, k3, k4, k5, k6, k7, k8, k9, k10, k11, _⟩ := HBOX.out wb0 hLb
    have HL0 := Lib.hid hLb
    clear hLb
    go_wp2_with fail
    refine (HG1.out wb0 HL0.out).mono ?_
    rintro e wb1 ⟨rfl, hbb⟩
    have hLb := HL0.out.then_ hbb
    clear hbb HL0 k0 k1 k2 k3 k4 k5 k6 k7 k8 k9 k10 k11
    cases G1 with
    | true =>
      have hend := hLb.below HB0.out
      clear hLb
      go_wp2
      go_ret
      exact ⟨rfl, hend⟩
    | false =>
      obtain ⟨k0, k1, k2, k3, k4, k5, k6, k7, k8, k9, k10, k11, _⟩ := HBOX.out wb1 hLb
      have HL1 := Lib.hid hLb
      clear hLb
      go_wp2_with fail
      refine (HG2.out wb1 HL1.out).mono ?_
      rintro e wb2 ⟨rfl, hbb⟩
      have hLb := HL1.out.then_ hbb
      clear hbb HL1 k0 k1 k2 k3 k4 k5 k6 k7 k8 k9 k10 k11
      cases G2 with
      | true =>
        have hend := hLb.below HB0.out
        clear hLb
        go_wp2
        go_ret
        exact ⟨rfl, hend⟩
      | false =>
        obtain ⟨k0, k1, k2, k3, k4, k5, k6, k7, k8, k9, k10, k11, _⟩ := HBOX.out wb2 hLb
        have HL2 := Lib.hid hLb
        clear hLb
        go_wp2_with fail
        refine (HOX.out wb2 HL2.out).mono ?_
        rintro e woX ⟨rfl, hbb⟩
        have hLb := HL2.out.then_ hbb
        clear hbb HL2 k0 k1 k2 k3 k4 k5 k6 k7 k8 k9 k10 k11
        obtain ⟨k0, k1, k2, k3, k4, k5, k6, k7, k8, k9, k10, k11, _⟩ := HBOX.out woX hLb
        have HLX := Lib.hid hLb
        clear hLb
        go_wp2_with fail
        refine (HOY.out woX HLX.out).mono ?_
        rintro e woY ⟨rfl, hbb⟩
        have hLb := HLX.out.then_ hbb
        clear hbb HLX k0 k1 k2 k3 k4 k5 k6 k7 k8 k9 k10 k11
        obtain ⟨k0, k1, k2, k3, k4, k5, k6, k7, k8, k9, k10, k11, _⟩ := HBOX.out woY hLb
        have HLY := Lib.hid hLb
        clear hLb
        go_wp2_with fail
        refine (HOZ.out woY HLY.out).mono ?_
        rintro e woZ ⟨rfl, hbb⟩
        have hLb := HLY.out.then_ hbb
        clear hbb HLY k0 k1 k2 k3 k4 k5 k6 k7 k8 k9 k10 k11
        obtain ⟨k0, k1, k2, k3, k4, k5, k6, k7, k8, k9, k10, k11, _⟩ := HBOX.out woZ hLb
        have HLZ := Lib.hid hLb
        clear hLb
        go_upto_region 7 with fail
        clear k0 k1 k2 k3 k4 k5 k6 k7 k8 k9 k10 k11
        go_cut [72] (fun s72 wx => s72 = .bool false ∧ Hid (Lat W0 wx))
        case first =>
          have hL := HLZ.out
          have hcell := fun (d : Nat) (os : Array Obj) => HBOX.out (Sort.grow (redrawn woZ d) os) (hL.re d os)
          have g0 := fun d os => (hcell d os).1
          have g1 := fun d os => (hcell d os).2.1
          have g2 := fun d os => (hcell d os).2.2.1
          have g3 := fun d os => (hcell d os).2.2.2.1
          have g4 := fun d os => (hcell d os).2.2.2.2.1
          have g5 := fun d os => (hcell d os).2.2.2.2.2.1
          have g6 := fun d os => (hcell d os).2.2.2.2.2.2.1
          have g7 := fun d os => (hcell d os).2.2.2.2.2.2.2.1
          have g8 := fun d os => (hcell d os).2.2.2.2.2.2.2.2.1
          have g9 := fun d os => (hcell d os).2.2.2.2.2.2.2.2.2.1
          have g10 := fun d os => (hcell d os).2.2.2.2.2.2.2.2.2.2.1
          have g11 := fun d os => (hcell d os).2.2.2.2.2.2.2.2.2.2.2.1
          clear hcell hL
          have hsg := HSG.out
          have htri := HTRI.out
          have hxx : (X != - -X) = false := by simp
          have xb1 : -1 ≤ X := by unfold Sg at hsg; omega
          have xb2 : X ≤ 1 := by unfold Sg at hsg; omega
          have hwx : IntKind.i64.wrap X = X := IntWalk.i64_in _ (by omega)
          have hwy : wrap64 X = X := by unfold wrap64; omega
          by_cases x1 : X ≤ 0
          · have d1 : decide (X ≤ 0) = true := by simpa using x1
            by_cases yy : Y ≤ 0
            · have d2 : decide (Y ≤ 0) = true := by simpa using yy
              obtain ⟨z1, z2⟩ := htri x1 yy
              have d3 : decide (0 < Z) = false := by simpa using z1
              by_cases x2 : X < 0
              · have d4 : decide (X < 0) = true := by simpa using x2
                have z3 := z2 (.inl x2)
                have d5 : decide (0 ≤ Z) = false := by simpa using z3
                clear z1 z2 z3 htri
                clear hsg
                refine wp_region_quiet_below (by kernel_rfl) (by kernel_rfl) ?_
                repeat (go_big_quiet_step ((first | (go_at_call 16; refine Calls.regrown_of (HSX.out _)) | (go_at_call 17; refine Calls.regrown_of (HOT.out _ (HLZ.out.re _ _))) | (go_at_call 16; refine Calls.regrown_of (HSN.out _)))))
                refine wpQuiet_nil ?_
                intro _ hw'
                obtain ⟨⟨nq, osq⟩, hw''⟩ := hw'
                subst hw''
                have hLf := HLZ.out.re nq osq
                have HLf := Lib.hid hLf
                clear hLf g0 g1 g2 g3 g4 g5 g6 g7 g8 g9 g10 g11
                go_wp2_with fail
                go_meet
                exact ⟨rfl, HLf⟩
              · have d4 : decide (X < 0) = false := by simpa using x2
                clear z1 z2 htri
                clear hsg
                refine wp_region_quiet_below (by kernel_rfl) (by kernel_rfl) ?_
                repeat (go_big_quiet_step ((first | (go_at_call 16; refine Calls.regrown_of (HSX.out _)) | (go_at_call 17; refine Calls.regrown_of (HOT.out _ (HLZ.out.re _ _))) | (go_at_call 16; refine Calls.regrown_of (HSN.out _)))))
                refine wpQuiet_nil ?_
                intro _ hw'
                obtain ⟨⟨nq, osq⟩, hw''⟩ := hw'
                subst hw''
                have hLf := HLZ.out.re nq osq
                have HLf := Lib.hid hLf
                clear hLf g0 g1 g2 g3 g4 g5 g6 g7 g8 g9 g10 g11
                go_wp2_with fail
                go_meet
                exact ⟨rfl, HLf⟩
            · have d2 : decide (Y ≤ 0) = false := by simpa using yy
              clear htri
              by_cases x2 : X < 0
              · have d4 : decide (X < 0) = true := by simpa using x2
                clear hsg
                refine wp_region_quiet_below (by kernel_rfl) (by kernel_rfl) ?_
                repeat (go_big_quiet_step ((first | (go_at_call 16; refine Calls.regrown_of (HSX.out _)) | (go_at_call 17; refine Calls.regrown_of (HOT.out _ (HLZ.out.re _ _))) | (go_at_call 16; refine Calls.regrown_of (HSN.out _)))))
                refine wpQuiet_nil ?_
                intro _ hw'
                obtain ⟨⟨nq, osq⟩, hw''⟩ := hw'
                subst hw''
                have hLf := HLZ.out.re nq osq
                have HLf := Lib.hid hLf
                clear hLf g0 g1 g2 g3 g4 g5 g6 g7 g8 g9 g10 g11
                go_wp2_with fail
                go_meet
                exact ⟨rfl, HLf⟩
              · have d4 : decide (X < 0) = false := by simpa using x2
                clear hsg
                refine wp_region_quiet_below (by kernel_rfl) (by kernel_rfl) ?_
                repeat (go_big_quiet_step ((first | (go_at_call 16; refine Calls.regrown_of (HSX.out _)) | (go_at_call 17; refine Calls.regrown_of (HOT.out _ (HLZ.out.re _ _))) | (go_at_call 16; refine Calls.regrown_of (HSN.out _)))))
                refine wpQuiet_nil ?_
                intro _ hw'
                obtain ⟨⟨nq, osq⟩, hw''⟩ := hw'
                subst hw''
                have hLf := HLZ.out.re nq osq
                have HLf := Lib.hid hLf
                clear hLf g0 g1 g2 g3 g4 g5 g6 g7 g8 g9 g10 g11
                go_wp2_with fail
                go_meet
                exact ⟨rfl, HLf⟩
          · have d1 : decide (X ≤ 0) = false := by simpa using x1
            have x2 : ¬ X < 0 := by omega
            have d4 : decide (X < 0) = false := by simpa using x2
            clear htri
            clear hsg
            refine wp_region_quiet_below (by kernel_rfl) (by kernel_rfl) ?_
            repeat (go_big_quiet_step ((first | (go_at_call 16; refine Calls.regrown_of (HSX.out _)) | (go_at_call 17; refine Calls.regrown_of (HOT.out _ (HLZ.out.re _ _))) | (go_at_call 16; refine Calls.regrown_of (HSN.out _)))))
            refine wpQuiet_nil ?_
            intro _ hw'
            obtain ⟨⟨nq, osq⟩, hw''⟩ := hw'
            subst hw''
            have hLf := HLZ.out.re nq osq
            have HLf := Lib.hid hLf
            clear hLf g0 g1 g2 g3 g4 g5 g6 g7 g8 g9 g10 g11
            go_wp2_with fail
            go_meet
            exact ⟨rfl, HLf⟩
        case rest =>
          obtain ⟨rfl, HL7⟩ := hcut
          have hz0 := HBD0.out (by first | rfl | trivial)
          have hz1 := HBD1.out (by first | rfl | trivial)
          have hz2 := HBD2.out (by first | rfl | trivial)
          have hp := HPA.out (by omega) wc HL7.out
          have HP5 := Lib.hid hp
          obtain ⟨k0, k1, k2, k3, k4, k5, k6, k7, k8, k9, k10, k11, _⟩ := HBOX.out wc HL7.out
          have hnorm := HNO.out (by omega)
          have HNO' := Lib.hid hnorm
          have hpb := HPB.out (by omega)
          have HPB' := Lib.hid hpb
          have HZ0 := Lib.hid hz0
          have HZ1 := Lib.hid hz1
          have HZ2 := Lib.hid hz2
          clear hp hnorm hpb HPA HPB HNO hz0 hz1 hz2 HOX HOY HOZ HOT HSX HSN HTRI HSG HBD0 HBD1 HBD2 HLZ
          go_wp2_with fail
          refine HP5.out.mono ?_
          rintro e w5 ⟨v5, rfl, ⟨q0, q1, q2, q3, rfl, hk5⟩, hb5⟩
          obtain ⟨o5, m5, A5, la5, ca5, K5, lk5, ck5, rfl, rfl, rfl, rfl⟩ := hk5.shape
          have hLc := HL7.out.then_ hb5
          obtain ⟨W5, hW5⟩ : ∃ y, w5.alloc (.cells #[.int .i64 o5, .int .i64 m5, .slice A5 la5 ca5, .slice K5 lk5 ck5] 26) = y := ⟨_, rfl⟩
          have hbn : Below w5.heap.size w5 W5 := by rw [← hW5]; exact below_new _ _
          have hqn : W5.heap[w5.heap.size]? = some (.cells #[.int .i64 o5, .int .i64 m5, .slice A5 la5 ca5, .slice K5 lk5 ck5] 26) := by rw [← hW5]; exact heap_new_ _ _
          have hLn : Lat W0 W5 := hLc.then_ hbn
          have hbx : ∀ W, Lat W5 W → W.cell? ⟨w.heap.size, 0, none⟩ = some (.int .i64 o0) ∧ W.cell? ⟨w.heap.size, 1, none⟩ = some (.int .i64 m0) ∧ W.cell? ⟨w.heap.size, 2, none⟩ = some (.slice A0 la0 ca0) ∧ W.cell? ⟨w.heap.size, 3, none⟩ = some (.slice K0 lk0 ck0) ∧ W.cell? ⟨w.heap.size + 1, 0, none⟩ = some (.int .i64 o1) ∧ W.cell? ⟨w.heap.size + 1, 1, none⟩ = some (.int .i64 m1) ∧ W.cell? ⟨w.heap.size + 1, 2, none⟩ = some (.slice A1 la1 ca1) ∧ W.cell? ⟨w.heap.size + 1, 3, none⟩ = some (.slice K1 lk1 ck1) ∧ W.cell? ⟨w.heap.size + 1 + 1, 0, none⟩ = some (.int .i64 o2) ∧ W.cell? ⟨w.heap.size + 1 + 1, 1, none⟩ = some (.int .i64 m2) ∧ W.cell? ⟨w.heap.size + 1 + 1, 2, none⟩ = some (.slice A2 la2 ca2) ∧ W.cell? ⟨w.heap.size + 1 + 1, 3, none⟩ = some (.slice K2 lk2 ck2) ∧ W.cell? ⟨w5.heap.size, 0, none⟩ = some (.int .i64 o5) ∧ W.cell? ⟨w5.heap.size, 1, none⟩ = some (.int .i64 m5) ∧ W.cell? ⟨w5.heap.size, 2, none⟩ = some (.slice A5 la5 ca5) ∧ W.cell? ⟨w5.heap.size, 3, none⟩ = some (.slice K5 lk5 ck5) ∧ Lat W0 W := fun W hW => by
            have hl : Lat W0 W := hLn.then_ hW
            obtain ⟨k0, k1, k2, k3, k4, k5, k6, k7, k8, k9, k10, k11, _⟩ := HBOX.out W hl
            obtain ⟨p0, p1, p2, p3⟩ := hW.box hqn
            exact ⟨k0, k1, k2, k3, k4, k5, k6, k7, k8, k9, k10, k11, p0, p1, p2, p3, hl⟩
          have HBX5 := Lib.hid hbx
          have HLn_W5 := Lib.hid hLn
          have hk5' := TmC.below hbn _ _ _ _ _ hk5
          have HK5 := Lib.hid hk5'
          clear hbx hbn hqn hLc hLn hk5 hk5' hb5 HP5 k0 k1 k2 k3 k4 k5 k6 k7 k8 k9 k10 k11
          have hp6 := HPB'.out W5 HLn_W5.out
          have HP6 := Lib.hid hp6
          obtain ⟨k0, k1, k2, k3, k4, k5, k6, k7, k8, k9, k10, k11, k12, k13, k14, k15, _⟩ := HBX5.out W5 (Lat.refl _)
          clear hp6
          go_wp2_with fail
          clear hW5
          refine HP6.out.mono ?_
          rintro e w6 ⟨v6, rfl, ⟨q0, q1, q2, q3, rfl, hk6⟩, hb6⟩
          obtain ⟨o6, m6, A6, la6, ca6, K6, lk6, ck6, rfl, rfl, rfl, rfl⟩ := hk6.shape
          have hLc : Lat W5 w6 := hb6
          obtain ⟨W6, hW6⟩ : ∃ y, w6.alloc (.cells #[.int .i64 o6, .int .i64 m6, .slice A6 la6 ca6, .slice K6 lk6 ck6] 26) = y := ⟨_, rfl⟩
          have hbn : Below w6.heap.size w6 W6 := by rw [← hW6]; exact below_new _ _
          have hqn : W6.heap[w6.heap.size]? = some (.cells #[.int .i64 o6, .int .i64 m6, .slice A6 la6 ca6, .slice K6 lk6 ck6] 26) := by rw [← hW6]; exact heap_new_ _ _
          have hLn : Lat W5 W6 := hLc.then_ hbn
          have hbx : ∀ W, Lat W6 W → W.cell? ⟨w.heap.size, 0, none⟩ = some (.int .i64 o0) ∧ W.cell? ⟨w.heap.size, 1, none⟩ = some (.int .i64 m0) ∧ W.cell? ⟨w.heap.size, 2, none⟩ = some (.slice A0 la0 ca0) ∧ W.cell? ⟨w.heap.size, 3, none⟩ = some (.slice K0 lk0 ck0) ∧ W.cell? ⟨w.heap.size + 1, 0, none⟩ = some (.int .i64 o1) ∧ W.cell? ⟨w.heap.size + 1, 1, none⟩ = some (.int .i64 m1) ∧ W.cell? ⟨w.heap.size + 1, 2, none⟩ = some (.slice A1 la1 ca1) ∧ W.cell? ⟨w.heap.size + 1, 3, none⟩ = some (.slice K1 lk1 ck1) ∧ W.cell? ⟨w.heap.size + 1 + 1, 0, none⟩ = some (.int .i64 o2) ∧ W.cell? ⟨w.heap.size + 1 + 1, 1, none⟩ = some (.int .i64 m2) ∧ W.cell? ⟨w.heap.size + 1 + 1, 2, none⟩ = some (.slice A2 la2 ca2) ∧ W.cell? ⟨w.heap.size + 1 + 1, 3, none⟩ = some (.slice K2 lk2 ck2) ∧ W.cell? ⟨w5.heap.size, 0, none⟩ = some (.int .i64 o5) ∧ W.cell? ⟨w5.heap.size, 1, none⟩ = some (.int .i64 m5) ∧ W.cell? ⟨w5.heap.size, 2, none⟩ = some (.slice A5 la5 ca5) ∧ W.cell? ⟨w5.heap.size, 3, none⟩ = some (.slice K5 lk5 ck5) ∧ W.cell? ⟨w6.heap.size, 0, none⟩ = some (.int .i64 o6) ∧ W.cell? ⟨w6.heap.size, 1, none⟩ = some (.int .i64 m6) ∧ W.cell? ⟨w6.heap.size, 2, none⟩ = some (.slice A6 la6 ca6) ∧ W.cell? ⟨w6.heap.size, 3, none⟩ = some (.slice K6 lk6 ck6) ∧ Lat W5 W := fun W hW => by
            have hl : Lat W5 W := hLn.then_ hW
            obtain ⟨k0, k1, k2, k3, k4, k5, k6, k7, k8, k9, k10, k11, k12, k13, k14, k15, _⟩ := HBX5.out W hl
            obtain ⟨p0, p1, p2, p3⟩ := hW.box hqn
            exact ⟨k0, k1, k2, k3, k4, k5, k6, k7, k8, k9, k10, k11, k12, k13, k14, k15, p0, p1, p2, p3, hl⟩
          have HBX6 := Lib.hid hbx
          have HLn_W6 := Lib.hid hLn
          have hk6' := TmC.below hbn _ _ _ _ _ hk6
          have HK6 := Lib.hid hk6'
          clear hbx hbn hqn hLc hLn hk6 hk6' hb6 HP6 HPB' k0 k1 k2 k3 k4 k5 k6 k7 k8 k9 k10 k11 k12 k13 k14 k15
          obtain ⟨k0, k1, k2, k3, k4, k5, k6, k7, k8, k9, k10, k11, k12, k13, k14, k15, k16, k17, k18, k19, _⟩ := HBX6.out W6 (Lat.refl _)
          cases PA with
          | none =>
            have hL : Lat W0 W6 := HLn_W5.out.then_ (Lat.then_ HLn_W6.out (Below.refl _ _))
            have HLF := Lib.hid hL
            clear hL HZA HZB HTWO
            clear k0 k1 k2 k3 k4 k5 k6 k7 k8 k9 k10 k11 k12 k13 k14 k15 k16 k17 k18 k19
            obtain ⟨j0, j1, j2, j3, j4, j5, j6, j7, j8, j9, j10, j11, _⟩ := HBOX.out W6 HLF.out
            have hno := HNO'.out W6 HLF.out
            have HNN := Lib.hid hno
            clear hno
            go_wp2_with fail
            refine HNN.out.mono ?_
            rintro e wn ⟨v9, rfl, ⟨q0, q1, q2, q3, rfl, hk9⟩, hb9⟩
            obtain ⟨o9, m9, A9, la9, ca9, K9, lk9, ck9, rfl, rfl, rfl, rfl⟩ := hk9.shape
            obtain ⟨W9, hW9⟩ : ∃ y, wn.alloc (.cells #[.int .i64 o9, .int .i64 m9, .slice A9 la9 ca9, .slice K9 lk9 ck9] 26) = y := ⟨_, rfl⟩
            have hbn : Below wn.heap.size wn W9 := by rw [← hW9]; exact below_new _ _
            have hqn : W9.heap[wn.heap.size]? = some (.cells #[.int .i64 o9, .int .i64 m9, .slice A9 la9 ca9, .slice K9 lk9 ck9] 26) := by rw [← hW9]; exact heap_new_ _ _
            have hL9 : Lat W0 W9 := (HLF.out.then_ hb9).then_ hbn
            have hk9' := TmC.below hbn _ _ _ _ _ hk9
            have hbx : ∀ W, Lat W9 W → W.cell? ⟨wn.heap.size, 0, none⟩ = some (.int .i64 o9) ∧ W.cell? ⟨wn.heap.size, 1, none⟩ = some (.int .i64 m9) ∧ W.cell? ⟨wn.heap.size, 2, none⟩ = some (.slice A9 la9 ca9) ∧ W.cell? ⟨wn.heap.size, 3, none⟩ = some (.slice K9 lk9 ck9) ∧ W.cell? ⟨w.heap.size + 1 + 1, 0, none⟩ = some (.int .i64 o2) ∧ W.cell? ⟨w.heap.size + 1 + 1, 1, none⟩ = some (.int .i64 m2) ∧ W.cell? ⟨w.heap.size + 1 + 1, 2, none⟩ = some (.slice A2 la2 ca2) ∧ W.cell? ⟨w.heap.size + 1 + 1, 3, none⟩ = some (.slice K2 lk2 ck2) ∧ Lat W0 W := fun W hW => by
              obtain ⟨_, _, _, _, _, _, _, _, c0, c1, c2, c3, hl⟩ := HBOX.out W (hL9.then_ hW)
              obtain ⟨p0, p1, p2, p3⟩ := hW.box hqn
              exact ⟨p0, p1, p2, p3, c0, c1, c2, c3, hl⟩
            have hz2 := HZ2.out
            have hfit := normF_fit _ n2 (Nat.le_refl _) HY2.out
            have hn2 := norm_any (normF n2) (by rw [norm_sz]; omega) hfit _ (.agg #[.int .i64 o9, .int .i64 m9, .slice A9 la9 ca9, .slice K9 lk9 ck9]) W9.drew ⟨_, _, _, _, rfl, (Lat.drew (Lat.refl W9)).tm hk9'⟩
            rw [norm_idem] at hn2
            have hS0 := hbx W9.drew (Lat.drew (Lat.refl W9))
            have HBX9 := Lib.hid hbx
            have HN2 := Lib.hid hn2
            have HK9 := Lib.hid hk9'
            have HL9 := Lib.hid hL9
            clear hbx hn2 hk9' hL9 hz2 hfit hbn hqn hk9 hb9 HNN j0 j1 j2 j3 j4 j5 j6 j7 j8 j9 j10 j11
            go_wp2_with fail
            clear hW9
            cases R with
            | true =>
              have hnr := HNR.out rfl
              have hk2 := HK2.out
              have HNR' := Lib.hid hnr
              clear hk2 hnr
              first | (go_region_held3 (fun W => W.cell? ⟨wn.heap.size, 0, none⟩ = some (.int .i64 o9) ∧ W.cell? ⟨wn.heap.size, 1, none⟩ = some (.int .i64 m9) ∧ W.cell? ⟨wn.heap.size, 2, none⟩ = some (.slice A9 la9 ca9) ∧ W.cell? ⟨wn.heap.size, 3, none⟩ = some (.slice K9 lk9 ck9) ∧ W.cell? ⟨w.heap.size + 1 + 1, 0, none⟩ = some (.int .i64 o2) ∧ W.cell? ⟨w.heap.size + 1 + 1, 1, none⟩ = some (.int .i64 m2) ∧ W.cell? ⟨w.heap.size + 1 + 1, 2, none⟩ = some (.slice A2 la2 ca2) ∧ W.cell? ⟨w.heap.size + 1 + 1, 3, none⟩ = some (.slice K2 lk2 ck2) ∧ Lat W0 W) (first | exact hS0 | exact hSN | exact hSO | exact hSR | exact hSP) ((first
                | (go_at_call 21; refine HN2.out.mono ?_; rintro e wN ⟨v10, rfl, ⟨q0, q1, q2, q3, rfl, hkN⟩, hbN⟩; obtain ⟨o10, m10, A10, la10, ca10, K10, lk10, ck10, rfl, rfl, rfl, rfl⟩ := hkN.shape; have hLN : Lat W9 wN := Lat.then_ (Lat.drew (Lat.refl W9)) hbN; have hSN := HBX9.out wN hLN)
                | (go_at_call_of 17 o10; refine (order_same (normF n2) _ _ (.agg #[.int .i64 o10, .int .i64 m10, .slice A10 la10 ca10, .slice K10 lk10 ck10]) (.agg #[.int .i64 o9, .int .i64 m9, .slice A9 la9 ca9, .slice K9 lk9 ck9]) _ ⟨_, _, _, _, rfl, hkN⟩ ⟨_, _, _, _, rfl, hLN.tm HK9.out⟩).mono ?_; rintro e wO ⟨rfl, hbO⟩; have hLO := hLN.then_ hbO; have hSO := HBX9.out wO hLO)
                | (go_at_call 12; refine (HRT.out wO (HL9.out.then_ hLO)).mono ?_; rintro e wR ⟨rfl, hbR⟩; have hLR := hLO.then_ hbR; have hSR := HBX9.out wR hLR)
                | (go_at_call_of 17 o2; refine (order_norm HNR'.out (.agg #[.int .i64 o9, .int .i64 m9, .slice A9 la9 ca9, .slice K9 lk9 ck9]) (.agg #[.int .i64 o2, .int .i64 m2, .slice A2 la2 ca2, .slice K2 lk2 ck2]) _ ⟨_, _, _, _, rfl, hLR.tm HK9.out⟩ ⟨_, _, _, _, rfl, (HL9.out.then_ hLR).tm HK2.out⟩).mono ?_; rintro e wP ⟨rfl, hbP⟩; have hLP := hLR.then_ hbP; have hSP := HBX9.out wP hLP))))
              have hend := (HL9.out.then_ hLP).below HB0.out
              clear hS0 hSN hSO hSR hSP
              go_wp2
              go_ret
              exact ⟨rfl, hend⟩
            | false =>
              refine wp_region_noPanic ?_
              refine wp_region_held_drew (S := fun W => W.cell? ⟨wn.heap.size, 0, none⟩ = some (.int .i64 o9) ∧ W.cell? ⟨wn.heap.size, 1, none⟩ = some (.int .i64 m9) ∧ W.cell? ⟨wn.heap.size, 2, none⟩ = some (.slice A9 la9 ca9) ∧ W.cell? ⟨wn.heap.size, 3, none⟩ = some (.slice K9 lk9 ck9) ∧ W.cell? ⟨w.heap.size + 1 + 1, 0, none⟩ = some (.int .i64 o2) ∧ W.cell? ⟨w.heap.size + 1 + 1, 1, none⟩ = some (.int .i64 m2) ∧ W.cell? ⟨w.heap.size + 1 + 1, 2, none⟩ = some (.slice A2 la2 ca2) ∧ W.cell? ⟨w.heap.size + 1 + 1, 3, none⟩ = some (.slice K2 lk2 ck2) ∧ Lat W0 W) (by kernel_rfl) hS0 (fun hHeld => ?_)
              refine takeW 0 19 (by kernel_rfl) rfl (by kernel_rfl) (by kernel_rfl) (by kernel_rfl) (by assumption) (by kernel_rfl) ?_ (fun w hw => ?_) ?_
              rotate_left
              · obtain ⟨s0, s1, s2, s3, s4, s5, s6, s7, _⟩ := hw
                go_simp
                try with_reducible rfl
              simp only [Act.put, List.setIfInBounds_toArray, List.set_cons_zero, List.set_cons_succ, List.getElem_toArray, List.getElem_cons_zero]
              refine takeW 1 18 (by kernel_rfl) rfl (by kernel_rfl) (by kernel_rfl) (by kernel_rfl) (by assumption) (by kernel_rfl) ?_ (fun w hw => ?_) ?_
              rotate_left
              · obtain ⟨s0, s1, s2, s3, s4, s5, s6, s7, _⟩ := hw
                go_simp
                try with_reducible rfl
              simp only [Act.put, List.setIfInBounds_toArray, List.set_cons_zero, List.set_cons_succ, List.getElem_toArray, List.getElem_cons_succ, List.getElem_cons_zero]
              refine takeW 2 17 (by kernel_rfl) rfl (by kernel_rfl) (by kernel_rfl) (by kernel_rfl) (by assumption) (by kernel_rfl) ?_ (fun w hw => ?_) ?_
              rotate_left
              · obtain ⟨s0, s1, s2, s3, s4, s5, s6, s7, _⟩ := hw
                go_simp
                try with_reducible rfl
              simp only [Act.put, List.setIfInBounds_toArray, List.set_cons_zero, List.set_cons_succ, List.getElem_toArray, List.getElem_cons_succ, List.getElem_cons_zero]
              refine takeW 4 16 (by kernel_rfl) rfl (by kernel_rfl) (by kernel_rfl) (by kernel_rfl) (by assumption) (by kernel_rfl) ?_ (fun w hw => ?_) ?_
              rotate_left
              · obtain ⟨s0, s1, s2, s3, s4, s5, s6, s7, _⟩ := hw
                go_simp
                try with_reducible rfl
              simp only [Act.put, List.setIfInBounds_toArray, List.set_cons_zero, List.set_cons_succ, List.getElem_toArray, List.getElem_cons_succ, List.getElem_cons_zero]
              refine readyOne 3 15 (by kernel_rfl) rfl (by kernel_rfl) (by kernel_rfl) (fun K hK => ?_)
              go_simp
              refine HN2.out.mono ?_
              rintro e wN ⟨v10, rfl, ⟨q0, q1, q2, q3, rfl, hkN⟩, hbN⟩
              obtain ⟨o10, m10, A10, la10, ca10, K10, lk10, ck10, rfl, rfl, rfl, rfl⟩ := hkN.shape
              have hLN : Lat W9 wN := Lat.then_ (Lat.drew (Lat.refl W9)) hbN
              have hSN := HBX9.out wN hLN
              refine hK _ _ hSN ?_
              clear hK K
              refine readyOne 5 14 (by kernel_rfl) rfl (by kernel_rfl) (by kernel_rfl) (fun K hK => ?_)
              go_simp
              refine (order_same (normF n2) _ _ (.agg #[.int .i64 o10, .int .i64 m10, .slice A10 la10 ca10, .slice K10 lk10 ck10]) (.agg #[.int .i64 o9, .int .i64 m9, .slice A9 la9 ca9, .slice K9 lk9 ck9]) _ ⟨_, _, _, _, rfl, hkN⟩ ⟨_, _, _, _, rfl, hLN.tm HK9.out⟩).mono ?_
              rintro e wO ⟨rfl, hbO⟩
              have hLO := hLN.then_ hbO
              have hSO := HBX9.out wO hLO
              refine hK _ _ hSO ?_
              clear hK K
              refine takeW 6 13 (by kernel_rfl) rfl (by kernel_rfl) (by kernel_rfl) (by kernel_rfl) (by assumption) (by kernel_rfl) ?_ (fun w hw => ?_) ?_
              rotate_left
              · obtain ⟨s0, s1, s2, s3, s4, s5, s6, s7, _⟩ := hw
                go_simp
                try with_reducible rfl
              simp only [Act.put, List.setIfInBounds_toArray, List.set_cons_zero, List.set_cons_succ, List.getElem_toArray, List.getElem_cons_succ, List.getElem_cons_zero]
              refine takeW 7 12 (by kernel_rfl) rfl (by kernel_rfl) (by kernel_rfl) (by kernel_rfl) (by assumption) (by kernel_rfl) ?_ (fun w hw => ?_) ?_
              rotate_left
              · obtain ⟨s0, s1, s2, s3, s4, s5, s6, s7, _⟩ := hw
                go_simp
                try with_reducible rfl
              simp only [Act.put, List.setIfInBounds_toArray, List.set_cons_zero, List.set_cons_succ, List.getElem_toArray, List.getElem_cons_succ, List.getElem_cons_zero]
              refine takeW 8 11 (by kernel_rfl) rfl (by kernel_rfl) (by kernel_rfl) (by kernel_rfl) (by assumption) (by kernel_rfl) ?_ (fun w hw => ?_) ?_
              rotate_left
              · obtain ⟨s0, s1, s2, s3, s4, s5, s6, s7, _⟩ := hw
                go_simp
                try with_reducible rfl
              simp only [Act.put, List.setIfInBounds_toArray, List.set_cons_zero, List.set_cons_succ, List.getElem_toArray, List.getElem_cons_succ, List.getElem_cons_zero]
              refine takeW 9 10 (by kernel_rfl) rfl (by kernel_rfl) (by kernel_rfl) (by kernel_rfl) (by assumption) (by kernel_rfl) ?_ (fun w hw => ?_) ?_
              rotate_left
              · obtain ⟨s0, s1, s2, s3, s4, s5, s6, s7, _⟩ := hw
                go_simp
                try with_reducible rfl
              simp only [Act.put, List.setIfInBounds_toArray, List.set_cons_zero, List.set_cons_succ, List.getElem_toArray, List.getElem_cons_succ, List.getElem_cons_zero]
              refine readyOne 10 9 (by kernel_rfl) rfl (by kernel_rfl) (by kernel_rfl) (fun K hK => ?_)
              go_simp
              refine (HRT.out wO (HL9.out.then_ hLO)).mono ?_
              rintro e wR ⟨rfl, hbR⟩
              have hLR := hLO.then_ hbR
              have hSR := HBX9.out wR hLR
              refine hK _ _ hSR ?_
              clear hK K
              refine takeW 11 8 (by kernel_rfl) rfl (by kernel_rfl) (by kernel_rfl) (by kernel_rfl) (by assumption) (by kernel_rfl) ?_ (fun w hw => ?_) ?_
              rotate_left
              · obtain ⟨s0, s1, s2, s3, s4, s5, s6, s7, _⟩ := hw
                go_simp
                try with_reducible rfl
              simp only [Act.put, List.setIfInBounds_toArray, List.set_cons_zero, List.set_cons_succ, List.getElem_toArray, List.getElem_cons_succ, List.getElem_cons_zero]
              refine takeW 12 7 (by kernel_rfl) rfl (by kernel_rfl) (by kernel_rfl) (by kernel_rfl) (by assumption) (by kernel_rfl) ?_ (fun w hw => ?_) ?_
              rotate_left
              · obtain ⟨s0, s1, s2, s3, s4, s5, s6, s7, _⟩ := hw
                go_simp
                try with_reducible rfl
              simp only [Act.put, List.setIfInBounds_toArray, List.set_cons_zero, List.set_cons_succ, List.getElem_toArray, List.getElem_cons_succ, List.getElem_cons_zero]
              refine takeU 13 6 (by kernel_rfl) rfl (by kernel_rfl) (by kernel_rfl) (by kernel_rfl) (by assumption) (by kernel_rfl) ?_
              simp only [Act.put, List.setIfInBounds_toArray, List.set_cons_zero, List.set_cons_succ, List.getElem_toArray, List.getElem_cons_succ, List.getElem_cons_zero]
              refine takeU 14 5 (by kernel_rfl) rfl (by kernel_rfl) (by kernel_rfl) (by kernel_rfl) (by assumption) (by kernel_rfl) ?_
              simp only [Act.put, List.setIfInBounds_toArray, List.set_cons_zero, List.set_cons_succ, List.getElem_toArray, List.getElem_cons_succ, List.getElem_cons_zero]
              refine takeU 15 4 (by kernel_rfl) rfl (by kernel_rfl) (by kernel_rfl) (by kernel_rfl) (by assumption) (by kernel_rfl) ?_
              simp only [Act.put, List.setIfInBounds_toArray, List.set_cons_zero, List.set_cons_succ, List.getElem_toArray, List.getElem_cons_succ, List.getElem_cons_zero]
              refine takeU 16 3 (by kernel_rfl) rfl (by kernel_rfl) (by kernel_rfl) (by kernel_rfl) (by assumption) (by kernel_rfl) ?_
              simp only [Act.put, List.setIfInBounds_toArray, List.set_cons_zero, List.set_cons_succ, List.getElem_toArray, List.getElem_cons_succ, List.getElem_cons_zero]
              refine takeW 17 2 (by kernel_rfl) rfl (by kernel_rfl) (by kernel_rfl) (by kernel_rfl) (by assumption) (by kernel_rfl) ?_ (fun w hw => ?_) ?_
              rotate_left
              · obtain ⟨s0, s1, s2, s3, s4, s5, s6, s7, _⟩ := hw
                go_simp
                try with_reducible rfl
              simp only [Act.put, List.setIfInBounds_toArray, List.set_cons_zero, List.set_cons_succ, List.getElem_toArray, List.getElem_cons_succ, List.getElem_cons_zero]
              refine takeW 18 1 (by kernel_rfl) rfl (by kernel_rfl) (by kernel_rfl) (by kernel_rfl) (by assumption) (by kernel_rfl) ?_ (fun w hw => ?_) ?_
              rotate_left
              · obtain ⟨s0, s1, s2, s3, s4, s5, s6, s7, _⟩ := hw
                go_simp
                try with_reducible rfl
              simp only [Act.put, List.setIfInBounds_toArray, List.set_cons_zero, List.set_cons_succ, List.getElem_toArray, List.getElem_cons_succ, List.getElem_cons_zero]
              refine takeW 19 0 (by kernel_rfl) rfl (by kernel_rfl) (by kernel_rfl) (by kernel_rfl) (by assumption) (by kernel_rfl) ?_ (fun w hw => ?_) ?_
              rotate_left
              · obtain ⟨s0, s1, s2, s3, s4, s5, s6, s7, _⟩ := hw
                go_simp
                try with_reducible rfl
              simp only [Act.put, List.setIfInBounds_toArray, List.set_cons_zero, List.set_cons_succ, List.getElem_toArray, List.getElem_cons_succ, List.getElem_cons_zero]
              refine wpAnyH_done (by kernel_rfl) ?_ _
              refine NoPanic.normal ?_
              have hend := (HL9.out.then_ hLR).below HB0.out
              clear hS0 hSN hSO hSR
              go_wp2
              go_ret
              exact ⟨rfl, hend⟩
          | some P =>
            cases PB with
            | none =>
              have hL : Lat W0 W6 := HLn_W5.out.then_ (Lat.then_ HLn_W6.out (Below.refl _ _))
              have HLF := Lib.hid hL
              clear hL HZA HZB HTWO
              clear k0 k1 k2 k3 k4 k5 k6 k7 k8 k9 k10 k11 k12 k13 k14 k15 k16 k17 k18 k19
              obtain ⟨j0, j1, j2, j3, j4, j5, j6, j7, j8, j9, j10, j11, _⟩ := HBOX.out W6 HLF.out
              have hno := HNO'.out W6 HLF.out
              have HNN := Lib.hid hno
              clear hno
              go_wp2_with fail
              refine HNN.out.mono ?_
              rintro e wn ⟨v9, rfl, ⟨q0, q1, q2, q3, rfl, hk9⟩, hb9⟩
              obtain ⟨o9, m9, A9, la9, ca9, K9, lk9, ck9, rfl, rfl, rfl, rfl⟩ := hk9.shape
              obtain ⟨W9, hW9⟩ : ∃ y, wn.alloc (.cells #[.int .i64 o9, .int .i64 m9, .slice A9 la9 ca9, .slice K9 lk9 ck9] 26) = y := ⟨_, rfl⟩
              have hbn : Below wn.heap.size wn W9 := by rw [← hW9]; exact below_new _ _
              have hqn : W9.heap[wn.heap.size]? = some (.cells #[.int .i64 o9, .int .i64 m9, .slice A9 la9 ca9, .slice K9 lk9 ck9] 26) := by rw [← hW9]; exact heap_new_ _ _
              have hL9 : Lat W0 W9 := (HLF.out.then_ hb9).then_ hbn
              have hk9' := TmC.below hbn _ _ _ _ _ hk9
              have hbx : ∀ W, Lat W9 W → W.cell? ⟨wn.heap.size, 0, none⟩ = some (.int .i64 o9) ∧ W.cell? ⟨wn.heap.size, 1, none⟩ = some (.int .i64 m9) ∧ W.cell? ⟨wn.heap.size, 2, none⟩ = some (.slice A9 la9 ca9) ∧ W.cell? ⟨wn.heap.size, 3, none⟩ = some (.slice K9 lk9 ck9) ∧ W.cell? ⟨w.heap.size + 1 + 1, 0, none⟩ = some (.int .i64 o2) ∧ W.cell? ⟨w.heap.size + 1 + 1, 1, none⟩ = some (.int .i64 m2) ∧ W.cell? ⟨w.heap.size + 1 + 1, 2, none⟩ = some (.slice A2 la2 ca2) ∧ W.cell? ⟨w.heap.size + 1 + 1, 3, none⟩ = some (.slice K2 lk2 ck2) ∧ Lat W0 W := fun W hW => by
                obtain ⟨_, _, _, _, _, _, _, _, c0, c1, c2, c3, hl⟩ := HBOX.out W (hL9.then_ hW)
                obtain ⟨p0, p1, p2, p3⟩ := hW.box hqn
                exact ⟨p0, p1, p2, p3, c0, c1, c2, c3, hl⟩
              have hz2 := HZ2.out
              have hfit := normF_fit _ n2 (Nat.le_refl _) HY2.out
              have hn2 := norm_any (normF n2) (by rw [norm_sz]; omega) hfit _ (.agg #[.int .i64 o9, .int .i64 m9, .slice A9 la9 ca9, .slice K9 lk9 ck9]) W9.drew ⟨_, _, _, _, rfl, (Lat.drew (Lat.refl W9)).tm hk9'⟩
              rw [norm_idem] at hn2
              have hS0 := hbx W9.drew (Lat.drew (Lat.refl W9))
              have HBX9 := Lib.hid hbx
              have HN2 := Lib.hid hn2
              have HK9 := Lib.hid hk9'
              have HL9 := Lib.hid hL9
              clear hbx hn2 hk9' hL9 hz2 hfit hbn hqn hk9 hb9 HNN j0 j1 j2 j3 j4 j5 j6 j7 j8 j9 j10 j11
              go_wp2_with fail
              clear hW9
              cases R with
              | true =>
                have hnr := HNR.out rfl
                have hk2 := HK2.out
                have HNR' := Lib.hid hnr
                clear hk2 hnr
                first | (go_region_held3 (fun W => W.cell? ⟨wn.heap.size, 0, none⟩ = some (.int .i64 o9) ∧ W.cell? ⟨wn.heap.size, 1, none⟩ = some (.int .i64 m9) ∧ W.cell? ⟨wn.heap.size, 2, none⟩ = some (.slice A9 la9 ca9) ∧ W.cell? ⟨wn.heap.size, 3, none⟩ = some (.slice K9 lk9 ck9) ∧ W.cell? ⟨w.heap.size + 1 + 1, 0, none⟩ = some (.int .i64 o2) ∧ W.cell? ⟨w.heap.size + 1 + 1, 1, none⟩ = some (.int .i64 m2) ∧ W.cell? ⟨w.heap.size + 1 + 1, 2, none⟩ = some (.slice A2 la2 ca2) ∧ W.cell? ⟨w.heap.size + 1 + 1, 3, none⟩ = some (.slice K2 lk2 ck2) ∧ Lat W0 W) (first | exact hS0 | exact hSN | exact hSO | exact hSR | exact hSP) ((first
                  | (go_at_call 21; refine HN2.out.mono ?_; rintro e wN ⟨v10, rfl, ⟨q0, q1, q2, q3, rfl, hkN⟩, hbN⟩; obtain ⟨o10, m10, A10, la10, ca10, K10, lk10, ck10, rfl, rfl, rfl, rfl⟩ := hkN.shape; have hLN : Lat W9 wN := Lat.then_ (Lat.drew (Lat.refl W9)) hbN; have hSN := HBX9.out wN hLN)
                  | (go_at_call_of 17 o10; refine (order_same (normF n2) _ _ (.agg #[.int .i64 o10, .int .i64 m10, .slice A10 la10 ca10, .slice K10 lk10 ck10]) (.agg #[.int .i64 o9, .int .i64 m9, .slice A9 la9 ca9, .slice K9 lk9 ck9]) _ ⟨_, _, _, _, rfl, hkN⟩ ⟨_, _, _, _, rfl, hLN.tm HK9.out⟩).mono ?_; rintro e wO ⟨rfl, hbO⟩; have hLO := hLN.then_ hbO; have hSO := HBX9.out wO hLO)
                  | (go_at_call 12; refine (HRT.out wO (HL9.out.then_ hLO)).mono ?_; rintro e wR ⟨rfl, hbR⟩; have hLR := hLO.then_ hbR; have hSR := HBX9.out wR hLR)
                  | (go_at_call_of 17 o2; refine (order_norm HNR'.out (.agg #[.int .i64 o9, .int .i64 m9, .slice A9 la9 ca9, .slice K9 lk9 ck9]) (.agg #[.int .i64 o2, .int .i64 m2, .slice A2 la2 ca2, .slice K2 lk2 ck2]) _ ⟨_, _, _, _, rfl, hLR.tm HK9.out⟩ ⟨_, _, _, _, rfl, (HL9.out.then_ hLR).tm HK2.out⟩).mono ?_; rintro e wP ⟨rfl, hbP⟩; have hLP := hLR.then_ hbP; have hSP := HBX9.out wP hLP))))
                have hend := (HL9.out.then_ hLP).below HB0.out
                clear hS0 hSN hSO hSR hSP
                go_wp2
                go_ret
                exact ⟨rfl, hend⟩
              | false =>
                refine wp_region_noPanic ?_
                refine wp_region_held_drew (S := fun W => W.cell? ⟨wn.heap.size, 0, none⟩ = some (.int .i64 o9) ∧ W.cell? ⟨wn.heap.size, 1, none⟩ = some (.int .i64 m9) ∧ W.cell? ⟨wn.heap.size, 2, none⟩ = some (.slice A9 la9 ca9) ∧ W.cell? ⟨wn.heap.size, 3, none⟩ = some (.slice K9 lk9 ck9) ∧ W.cell? ⟨w.heap.size + 1 + 1, 0, none⟩ = some (.int .i64 o2) ∧ W.cell? ⟨w.heap.size + 1 + 1, 1, none⟩ = some (.int .i64 m2) ∧ W.cell? ⟨w.heap.size + 1 + 1, 2, none⟩ = some (.slice A2 la2 ca2) ∧ W.cell? ⟨w.heap.size + 1 + 1, 3, none⟩ = some (.slice K2 lk2 ck2) ∧ Lat W0 W) (by kernel_rfl) hS0 (fun hHeld => ?_)
                refine takeW 0 19 (by kernel_rfl) rfl (by kernel_rfl) (by kernel_rfl) (by kernel_rfl) (by assumption) (by kernel_rfl) ?_ (fun w hw => ?_) ?_
                rotate_left
                · obtain ⟨s0, s1, s2, s3, s4, s5, s6, s7, _⟩ := hw
                  go_simp
                  try with_reducible rfl
                simp only [Act.put, List.setIfInBounds_toArray, List.set_cons_zero, List.set_cons_succ, List.getElem_toArray, List.getElem_cons_zero]
                refine takeW 1 18 (by kernel_rfl) rfl (by kernel_rfl) (by kernel_rfl) (by kernel_rfl) (by assumption) (by kernel_rfl) ?_ (fun w hw => ?_) ?_
                rotate_left
                · obtain ⟨s0, s1, s2, s3, s4, s5, s6, s7, _⟩ := hw
                  go_simp
                  try with_reducible rfl
                simp only [Act.put, List.setIfInBounds_toArray, List.set_cons_zero, List.set_cons_succ, List.getElem_toArray, List.getElem_cons_succ, List.getElem_cons_zero]
                refine takeW 2 17 (by kernel_rfl) rfl (by kernel_rfl) (by kernel_rfl) (by kernel_rfl) (by assumption) (by kernel_rfl) ?_ (fun w hw => ?_) ?_
                rotate_left
                · obtain ⟨s0, s1, s2, s3, s4, s5, s6, s7, _⟩ := hw
                  go_simp
                  try with_reducible rfl
                simp only [Act.put, List.setIfInBounds_toArray, List.set_cons_zero, List.set_cons_succ, List.getElem_toArray, List.getElem_cons_succ, List.getElem_cons_zero]
                refine takeW 4 16 (by kernel_rfl) rfl (by kernel_rfl) (by kernel_rfl) (by kernel_rfl) (by assumption) (by kernel_rfl) ?_ (fun w hw => ?_) ?_
                rotate_left
                · obtain ⟨s0, s1, s2, s3, s4, s5, s6, s7, _⟩ := hw
                  go_simp
                  try with_reducible rfl
                simp only [Act.put, List.setIfInBounds_toArray, List.set_cons_zero, List.set_cons_succ, List.getElem_toArray, List.getElem_cons_succ, List.getElem_cons_zero]
                refine readyOne 3 15 (by kernel_rfl) rfl (by kernel_rfl) (by kernel_rfl) (fun K hK => ?_)
                go_simp
                refine HN2.out.mono ?_
                rintro e wN ⟨v10, rfl, ⟨q0, q1, q2, q3, rfl, hkN⟩, hbN⟩
                obtain ⟨o10, m10, A10, la10, ca10, K10, lk10, ck10, rfl, rfl, rfl, rfl⟩ := hkN.shape
                have hLN : Lat W9 wN := Lat.then_ (Lat.drew (Lat.refl W9)) hbN
                have hSN := HBX9.out wN hLN
                refine hK _ _ hSN ?_
                clear hK K
                refine readyOne 5 14 (by kernel_rfl) rfl (by kernel_rfl) (by kernel_rfl) (fun K hK => ?_)
                go_simp
                refine (order_same (normF n2) _ _ (.agg #[.int .i64 o10, .int .i64 m10, .slice A10 la10 ca10, .slice K10 lk10 ck10]) (.agg #[.int .i64 o9, .int .i64 m9, .slice A9 la9 ca9, .slice K9 lk9 ck9]) _ ⟨_, _, _, _, rfl, hkN⟩ ⟨_, _, _, _, rfl, hLN.tm HK9.out⟩).mono ?_
                rintro e wO ⟨rfl, hbO⟩
                have hLO := hLN.then_ hbO
                have hSO := HBX9.out wO hLO
                refine hK _ _ hSO ?_
                clear hK K
                refine takeW 6 13 (by kernel_rfl) rfl (by kernel_rfl) (by kernel_rfl) (by kernel_rfl) (by assumption) (by kernel_rfl) ?_ (fun w hw => ?_) ?_
                rotate_left
                · obtain ⟨s0, s1, s2, s3, s4, s5, s6, s7, _⟩ := hw
                  go_simp
                  try with_reducible rfl
                simp only [Act.put, List.setIfInBounds_toArray, List.set_cons_zero, List.set_cons_succ, List.getElem_toArray, List.getElem_cons_succ, List.getElem_cons_zero]
                refine takeW 7 12 (by kernel_rfl) rfl (by kernel_rfl) (by kernel_rfl) (by kernel_rfl) (by assumption) (by kernel_rfl) ?_ (fun w hw => ?_) ?_
                rotate_left
                · obtain ⟨s0, s1, s2, s3, s4, s5, s6, s7, _⟩ := hw
                  go_simp
                  try with_reducible rfl
                simp only [Act.put, List.setIfInBounds_toArray, List.set_cons_zero, List.set_cons_succ, List.getElem_toArray, List.getElem_cons_succ, List.getElem_cons_zero]
                refine takeW 8 11 (by kernel_rfl) rfl (by kernel_rfl) (by kernel_rfl) (by kernel_rfl) (by assumption) (by kernel_rfl) ?_ (fun w hw => ?_) ?_
                rotate_left
                · obtain ⟨s0, s1, s2, s3, s4, s5, s6, s7, _⟩ := hw
                  go_simp
                  try with_reducible rfl
                simp only [Act.put, List.setIfInBounds_toArray, List.set_cons_zero, List.set_cons_succ, List.getElem_toArray, List.getElem_cons_succ, List.getElem_cons_zero]
                refine takeW 9 10 (by kernel_rfl) rfl (by kernel_rfl) (by kernel_rfl) (by kernel_rfl) (by assumption) (by kernel_rfl) ?_ (fun w hw => ?_) ?_
                rotate_left
                · obtain ⟨s0, s1, s2, s3, s4, s5, s6, s7, _⟩ := hw
                  go_simp
                  try with_reducible rfl
                simp only [Act.put, List.setIfInBounds_toArray, List.set_cons_zero, List.set_cons_succ, List.getElem_toArray, List.getElem_cons_succ, List.getElem_cons_zero]
                refine readyOne 10 9 (by kernel_rfl) rfl (by kernel_rfl) (by kernel_rfl) (fun K hK => ?_)
                go_simp
                refine (HRT.out wO (HL9.out.then_ hLO)).mono ?_
                rintro e wR ⟨rfl, hbR⟩
                have hLR := hLO.then_ hbR
                have hSR := HBX9.out wR hLR
                refine hK _ _ hSR ?_
                clear hK K
                refine takeW 11 8 (by kernel_rfl) rfl (by kernel_rfl) (by kernel_rfl) (by kernel_rfl) (by assumption) (by kernel_rfl) ?_ (fun w hw => ?_) ?_
                rotate_left
                · obtain ⟨s0, s1, s2, s3, s4, s5, s6, s7, _⟩ := hw
                  go_simp
                  try with_reducible rfl
                simp only [Act.put, List.setIfInBounds_toArray, List.set_cons_zero, List.set_cons_succ, List.getElem_toArray, List.getElem_cons_succ, List.getElem_cons_zero]
                refine takeW 12 7 (by kernel_rfl) rfl (by kernel_rfl) (by kernel_rfl) (by kernel_rfl) (by assumption) (by kernel_rfl) ?_ (fun w hw => ?_) ?_
                rotate_left
                · obtain ⟨s0, s1, s2, s3, s4, s5, s6, s7, _⟩ := hw
                  go_simp
                  try with_reducible rfl
                simp only [Act.put, List.setIfInBounds_toArray, List.set_cons_zero, List.set_cons_succ, List.getElem_toArray, List.getElem_cons_succ, List.getElem_cons_zero]
                refine takeU 13 6 (by kernel_rfl) rfl (by kernel_rfl) (by kernel_rfl) (by kernel_rfl) (by assumption) (by kernel_rfl) ?_
                simp only [Act.put, List.setIfInBounds_toArray, List.set_cons_zero, List.set_cons_succ, List.getElem_toArray, List.getElem_cons_succ, List.getElem_cons_zero]
                refine takeU 14 5 (by kernel_rfl) rfl (by kernel_rfl) (by kernel_rfl) (by kernel_rfl) (by assumption) (by kernel_rfl) ?_
                simp only [Act.put, List.setIfInBounds_toArray, List.set_cons_zero, List.set_cons_succ, List.getElem_toArray, List.getElem_cons_succ, List.getElem_cons_zero]
                refine takeU 15 4 (by kernel_rfl) rfl (by kernel_rfl) (by kernel_rfl) (by kernel_rfl) (by assumption) (by kernel_rfl) ?_
                simp only [Act.put, List.setIfInBounds_toArray, List.set_cons_zero, List.set_cons_succ, List.getElem_toArray, List.getElem_cons_succ, List.getElem_cons_zero]
                refine takeU 16 3 (by kernel_rfl) rfl (by kernel_rfl) (by kernel_rfl) (by kernel_rfl) (by assumption) (by kernel_rfl) ?_
                simp only [Act.put, List.setIfInBounds_toArray, List.set_cons_zero, List.set_cons_succ, List.getElem_toArray, List.getElem_cons_succ, List.getElem_cons_zero]
                refine takeW 17 2 (by kernel_rfl) rfl (by kernel_rfl) (by kernel_rfl) (by kernel_rfl) (by assumption) (by kernel_rfl) ?_ (fun w hw => ?_) ?_
                rotate_left
                · obtain ⟨s0, s1, s2, s3, s4, s5, s6, s7, _⟩ := hw
                  go_simp
                  try with_reducible rfl
                simp only [Act.put, List.setIfInBounds_toArray, List.set_cons_zero, List.set_cons_succ, List.getElem_toArray, List.getElem_cons_succ, List.getElem_cons_zero]
                refine takeW 18 1 (by kernel_rfl) rfl (by kernel_rfl) (by kernel_rfl) (by kernel_rfl) (by assumption) (by kernel_rfl) ?_ (fun w hw => ?_) ?_
                rotate_left
                · obtain ⟨s0, s1, s2, s3, s4, s5, s6, s7, _⟩ := hw
                  go_simp
                  try with_reducible rfl
                simp only [Act.put, List.setIfInBounds_toArray, List.set_cons_zero, List.set_cons_succ, List.getElem_toArray, List.getElem_cons_succ, List.getElem_cons_zero]
                refine takeW 19 0 (by kernel_rfl) rfl (by kernel_rfl) (by kernel_rfl) (by kernel_rfl) (by assumption) (by kernel_rfl) ?_ (fun w hw => ?_) ?_
                rotate_left
                · obtain ⟨s0, s1, s2, s3, s4, s5, s6, s7, _⟩ := hw
                  go_simp
                  try with_reducible rfl
                simp only [Act.put, List.setIfInBounds_toArray, List.set_cons_zero, List.set_cons_succ, List.getElem_toArray, List.getElem_cons_succ, List.getElem_cons_zero]
                refine wpAnyH_done (by kernel_rfl) ?_ _
                refine NoPanic.normal ?_
                have hend := (HL9.out.then_ hLR).below HB0.out
                clear hS0 hSN hSO hSR
                go_wp2
                go_ret
                exact ⟨rfl, hend⟩
            | some Q =>
              have hza := HZA.out P rfl
              have hzb := HZB.out Q rfl
              have htw := HTWO.out P Q rfl rfl
              have hz0 := HZ0.out
              have hz1 := HZ1.out
              have hkp := (HLn_W6.out).tm HK5.out
              have hk0 := fun W (hW : Lat W6 W) => ((HLn_W5.out.then_ HLn_W6.out).then_ hW).tm HK0.out
              have hk1 := fun W (hW : Lat W6 W) => ((HLn_W5.out.then_ HLn_W6.out).then_ hW).tm HK1.out
              have hk6 := HK6.out
              have hk5 : TmC (fun g => wc.heap.size ≤ g) W6 P (.int .i64 o5) (.int .i64 m5) (.slice A5 la5 ca5) (.slice K5 lk5 ck5) := hkp
              have hk6 : TmC (fun g => W5.heap.size ≤ g) W6 Q (.int .i64 o6) (.int .i64 m6) (.slice A6 la6 ca6) (.slice K6 lk6 ck6) := hk6
              have hp7 := pow_any P n1 _ _ (.agg #[.int .i64 o5, .int .i64 m5, .slice A5 la5 ca5, .slice K5 lk5 ck5]) (.agg #[.int .i64 o1, .int .i64 m1, .slice A1 la1 ca1, .slice K1 lk1 ck1]) W6 ⟨_, _, _, _, rfl, hk5⟩ ⟨_, _, _, _, rfl, hk1 W6 (Lat.refl _)⟩ (by omega)
              have hp8 := fun W (hW : Lat W6 W) => pow_any Q n0 _ _ (.agg #[.int .i64 o6, .int .i64 m6, .slice A6 la6 ca6, .slice K6 lk6 ck6]) (.agg #[.int .i64 o0, .int .i64 m0, .slice A0 la0 ca0, .slice K0 lk0 ck0]) W ⟨_, _, _, _, rfl, hW.tm hk6⟩ ⟨_, _, _, _, rfl, hk0 W hW⟩ (by omega)
              rw [← htw] at hp8
              obtain ⟨PR, hPR⟩ : ∃ y, powF P n1 = y := ⟨_, rfl⟩
              rw [hPR] at hp7 hp8
              have HP7 := Lib.hid hp7
              have HP8 := Lib.hid hp8
              clear hp7 hp8 hPR htw hza hzb hz0 hz1 hkp hk0 hk1 hk6 hk5 HZA HZB HTWO
              go_wp2_with fail
              clear hW6
              refine HP7.out.mono ?_
              rintro e w7 ⟨v7, rfl, ⟨q0, q1, q2, q3, rfl, hk7⟩, hb7⟩
              obtain ⟨o7, m7, A7, la7, ca7, K7, lk7, ck7, rfl, rfl, rfl, rfl⟩ := hk7.shape
              have hLc : Lat W6 w7 := hb7
              obtain ⟨W7, hW7⟩ : ∃ y, w7.alloc (.cells #[.int .i64 o7, .int .i64 m7, .slice A7 la7 ca7, .slice K7 lk7 ck7] 26) = y := ⟨_, rfl⟩
              have hbn : Below w7.heap.size w7 W7 := by rw [← hW7]; exact below_new _ _
              have hqn : W7.heap[w7.heap.size]? = some (.cells #[.int .i64 o7, .int .i64 m7, .slice A7 la7 ca7, .slice K7 lk7 ck7] 26) := by rw [← hW7]; exact heap_new_ _ _
              have hLn : Lat W6 W7 := hLc.then_ hbn
              have hbx : ∀ W, Lat W7 W → W.cell? ⟨w.heap.size, 0, none⟩ = some (.int .i64 o0) ∧ W.cell? ⟨w.heap.size, 1, none⟩ = some (.int .i64 m0) ∧ W.cell? ⟨w.heap.size, 2, none⟩ = some (.slice A0 la0 ca0) ∧ W.cell? ⟨w.heap.size, 3, none⟩ = some (.slice K0 lk0 ck0) ∧ W.cell? ⟨w.heap.size + 1, 0, none⟩ = some (.int .i64 o1) ∧ W.cell? ⟨w.heap.size + 1, 1, none⟩ = some (.int .i64 m1) ∧ W.cell? ⟨w.heap.size + 1, 2, none⟩ = some (.slice A1 la1 ca1) ∧ W.cell? ⟨w.heap.size + 1, 3, none⟩ = some (.slice K1 lk1 ck1) ∧ W.cell? ⟨w.heap.size + 1 + 1, 0, none⟩ = some (.int .i64 o2) ∧ W.cell? ⟨w.heap.size + 1 + 1, 1, none⟩ = some (.int .i64 m2) ∧ W.cell? ⟨w.heap.size + 1 + 1, 2, none⟩ = some (.slice A2 la2 ca2) ∧ W.cell? ⟨w.heap.size + 1 + 1, 3, none⟩ = some (.slice K2 lk2 ck2) ∧ W.cell? ⟨w5.heap.size, 0, none⟩ = some (.int .i64 o5) ∧ W.cell? ⟨w5.heap.size, 1, none⟩ = some (.int .i64 m5) ∧ W.cell? ⟨w5.heap.size, 2, none⟩ = some (.slice A5 la5 ca5) ∧ W.cell? ⟨w5.heap.size, 3, none⟩ = some (.slice K5 lk5 ck5) ∧ W.cell? ⟨w6.heap.size, 0, none⟩ = some (.int .i64 o6) ∧ W.cell? ⟨w6.heap.size, 1, none⟩ = some (.int .i64 m6) ∧ W.cell? ⟨w6.heap.size, 2, none⟩ = some (.slice A6 la6 ca6) ∧ W.cell? ⟨w6.heap.size, 3, none⟩ = some (.slice K6 lk6 ck6) ∧ W.cell? ⟨w7.heap.size, 0, none⟩ = some (.int .i64 o7) ∧ W.cell? ⟨w7.heap.size, 1, none⟩ = some (.int .i64 m7) ∧ W.cell? ⟨w7.heap.size, 2, none⟩ = some (.slice A7 la7 ca7) ∧ W.cell? ⟨w7.heap.size, 3, none⟩ = some (.slice K7 lk7 ck7) ∧ Lat W6 W := fun W hW => by
                have hl : Lat W6 W := hLn.then_ hW
                obtain ⟨k0, k1, k2, k3, k4, k5, k6, k7, k8, k9, k10, k11, k12, k13, k14, k15, k16, k17, k18, k19, _⟩ := HBX6.out W hl
                obtain ⟨p0, p1, p2, p3⟩ := hW.box hqn
                exact ⟨k0, k1, k2, k3, k4, k5, k6, k7, k8, k9, k10, k11, k12, k13, k14, k15, k16, k17, k18, k19, p0, p1, p2, p3, hl⟩
              have HBX7 := Lib.hid hbx
              have HLn_W7 := Lib.hid hLn
              have hk7' := TmC.below hbn _ _ _ _ _ hk7
              have HK7 := Lib.hid hk7'
              clear hbx hbn hqn hLc hLn hk7 hk7' hb7 HP7 k0 k1 k2 k3 k4 k5 k6 k7 k8 k9 k10 k11 k12 k13 k14 k15 k16 k17 k18 k19
              obtain ⟨k0, k1, k2, k3, k4, k5, k6, k7, k8, k9, k10, k11, k12, k13, k14, k15, k16, k17, k18, k19, k20, k21, k22, k23, _⟩ := HBX7.out W7 (Lat.refl _)
              have hp9 := HP8.out W7 HLn_W7.out
              have HP9 := Lib.hid hp9
              clear hp9 HP8
              go_wp2_with fail
              clear hW7
              refine HP9.out.mono ?_
              rintro e w8 ⟨v8, rfl, ⟨q0, q1, q2, q3, rfl, hk8⟩, hb8⟩
              obtain ⟨o8, m8, A8, la8, ca8, K8, lk8, ck8, rfl, rfl, rfl, rfl⟩ := hk8.shape
              have hLc : Lat W7 w8 := hb8
              obtain ⟨W8, hW8⟩ : ∃ y, w8.alloc (.cells #[.int .i64 o8, .int .i64 m8, .slice A8 la8 ca8, .slice K8 lk8 ck8] 26) = y := ⟨_, rfl⟩
              have hbn : Below w8.heap.size w8 W8 := by rw [← hW8]; exact below_new _ _
              have hqn : W8.heap[w8.heap.size]? = some (.cells #[.int .i64 o8, .int .i64 m8, .slice A8 la8 ca8, .slice K8 lk8 ck8] 26) := by rw [← hW8]; exact heap_new_ _ _
              have hLn : Lat W7 W8 := hLc.then_ hbn
              have hbx : ∀ W, Lat W8 W → W.cell? ⟨w.heap.size, 0, none⟩ = some (.int .i64 o0) ∧ W.cell? ⟨w.heap.size, 1, none⟩ = some (.int .i64 m0) ∧ W.cell? ⟨w.heap.size, 2, none⟩ = some (.slice A0 la0 ca0) ∧ W.cell? ⟨w.heap.size, 3, none⟩ = some (.slice K0 lk0 ck0) ∧ W.cell? ⟨w.heap.size + 1, 0, none⟩ = some (.int .i64 o1) ∧ W.cell? ⟨w.heap.size + 1, 1, none⟩ = some (.int .i64 m1) ∧ W.cell? ⟨w.heap.size + 1, 2, none⟩ = some (.slice A1 la1 ca1) ∧ W.cell? ⟨w.heap.size + 1, 3, none⟩ = some (.slice K1 lk1 ck1) ∧ W.cell? ⟨w.heap.size + 1 + 1, 0, none⟩ = some (.int .i64 o2) ∧ W.cell? ⟨w.heap.size + 1 + 1, 1, none⟩ = some (.int .i64 m2) ∧ W.cell? ⟨w.heap.size + 1 + 1, 2, none⟩ = some (.slice A2 la2 ca2) ∧ W.cell? ⟨w.heap.size + 1 + 1, 3, none⟩ = some (.slice K2 lk2 ck2) ∧ W.cell? ⟨w5.heap.size, 0, none⟩ = some (.int .i64 o5) ∧ W.cell? ⟨w5.heap.size, 1, none⟩ = some (.int .i64 m5) ∧ W.cell? ⟨w5.heap.size, 2, none⟩ = some (.slice A5 la5 ca5) ∧ W.cell? ⟨w5.heap.size, 3, none⟩ = some (.slice K5 lk5 ck5) ∧ W.cell? ⟨w6.heap.size, 0, none⟩ = some (.int .i64 o6) ∧ W.cell? ⟨w6.heap.size, 1, none⟩ = some (.int .i64 m6) ∧ W.cell? ⟨w6.heap.size, 2, none⟩ = some (.slice A6 la6 ca6) ∧ W.cell? ⟨w6.heap.size, 3, none⟩ = some (.slice K6 lk6 ck6) ∧ W.cell? ⟨w7.heap.size, 0, none⟩ = some (.int .i64 o7) ∧ W.cell? ⟨w7.heap.size, 1, none⟩ = some (.int .i64 m7) ∧ W.cell? ⟨w7.heap.size, 2, none⟩ = some (.slice A7 la7 ca7) ∧ W.cell? ⟨w7.heap.size, 3, none⟩ = some (.slice K7 lk7 ck7) ∧ W.cell? ⟨w8.heap.size, 0, none⟩ = some (.int .i64 o8) ∧ W.cell? ⟨w8.heap.size, 1, none⟩ = some (.int .i64 m8) ∧ W.cell? ⟨w8.heap.size, 2, none⟩ = some (.slice A8 la8 ca8) ∧ W.cell? ⟨w8.heap.size, 3, none⟩ = some (.slice K8 lk8 ck8) ∧ Lat W7 W := fun W hW => by
                have hl : Lat W7 W := hLn.then_ hW
                obtain ⟨k0, k1, k2, k3, k4, k5, k6, k7, k8, k9, k10, k11, k12, k13, k14, k15, k16, k17, k18, k19, k20, k21, k22, k23, _⟩ := HBX7.out W hl
                obtain ⟨p0, p1, p2, p3⟩ := hW.box hqn
                exact ⟨k0, k1, k2, k3, k4, k5, k6, k7, k8, k9, k10, k11, k12, k13, k14, k15, k16, k17, k18, k19, k20, k21, k22, k23, p0, p1, p2, p3, hl⟩
              have HBX8 := Lib.hid hbx
              have HLn_W8 := Lib.hid hLn
              have hk8' := TmC.below hbn _ _ _ _ _ hk8
              have hk7' := hLn.tm HK7.out
              have hord := order_same (PR.getD (.mk 0 0 [] [])) _ _ (.agg #[.int .i64 o7, .int .i64 m7, .slice A7 la7 ca7, .slice K7 lk7 ck7]) (.agg #[.int .i64 o8, .int .i64 m8, .slice A8 la8 ca8, .slice K8 lk8 ck8]) W8 ⟨_, _, _, _, rfl, hk7'⟩ ⟨_, _, _, _, rfl, hk8'⟩
              have HOR := Lib.hid hord
              have hL8 : Lat W0 W8 := (HLn_W5.out.then_ HLn_W6.out).then_ (Lat.then_ HLn_W7.out hLn)
              have HL8 := Lib.hid hL8
              clear hbx hbn hqn hLc hLn hk8 hk8' hk7' hb8 HP9 hord hL8 k0 k1 k2 k3 k4 k5 k6 k7 k8 k9 k10 k11 k12 k13 k14 k15 k16 k17 k18 k19 k20 k21 k22 k23
              obtain ⟨k0, k1, k2, k3, k4, k5, k6, k7, k8, k9, k10, k11, k12, k13, k14, k15, k16, k17, k18, k19, k20, k21, k22, k23, k24, k25, k26, k27, _⟩ := HBX8.out W8 (Lat.refl _)
              have hbb : (PR.isSome != PR.isSome) = false := by simp
              go_wp2_with fail
              clear hW8
              refine HOR.out.mono ?_
              rintro e wf ⟨rfl, hbf⟩
              have hL := HL8.out.then_ hbf
              have HLF := Lib.hid hL
              clear hL hbf HOR HL8 hbb k0 k1 k2 k3 k4 k5 k6 k7 k8 k9 k10 k11 k12 k13 k14 k15 k16 k17 k18 k19 k20 k21 k22 k23 k24 k25 k26 k27
              obtain ⟨j0, j1, j2, j3, j4, j5, j6, j7, j8, j9, j10, j11, _⟩ := HBOX.out wf HLF.out
              have hno := HNO'.out wf HLF.out
              have HNN := Lib.hid hno
              clear hno
              go_wp2_with fail
              refine HNN.out.mono ?_
              rintro e wn ⟨v9, rfl, ⟨q0, q1, q2, q3, rfl, hk9⟩, hb9⟩
              obtain ⟨o9, m9, A9, la9, ca9, K9, lk9, ck9, rfl, rfl, rfl, rfl⟩ := hk9.shape
              obtain ⟨W9, hW9⟩ : ∃ y, wn.alloc (.cells #[.int .i64 o9, .int .i64 m9, .slice A9 la9 ca9, .slice K9 lk9 ck9] 26) = y := ⟨_, rfl⟩
              have hbn : Below wn.heap.size wn W9 := by rw [← hW9]; exact below_new _ _
              have hqn : W9.heap[wn.heap.size]? = some (.cells #[.int .i64 o9, .int .i64 m9, .slice A9 la9 ca9, .slice K9 lk9 ck9] 26) := by rw [← hW9]; exact heap_new_ _ _
              have hL9 : Lat W0 W9 := (HLF.out.then_ hb9).then_ hbn
              have hk9' := TmC.below hbn _ _ _ _ _ hk9
              have hbx : ∀ W, Lat W9 W → W.cell? ⟨wn.heap.size, 0, none⟩ = some (.int .i64 o9) ∧ W.cell? ⟨wn.heap.size, 1, none⟩ = some (.int .i64 m9) ∧ W.cell? ⟨wn.heap.size, 2, none⟩ = some (.slice A9 la9 ca9) ∧ W.cell? ⟨wn.heap.size, 3, none⟩ = some (.slice K9 lk9 ck9) ∧ W.cell? ⟨w.heap.size + 1 + 1, 0, none⟩ = some (.int .i64 o2) ∧ W.cell? ⟨w.heap.size + 1 + 1, 1, none⟩ = some (.int .i64 m2) ∧ W.cell? ⟨w.heap.size + 1 + 1, 2, none⟩ = some (.slice A2 la2 ca2) ∧ W.cell? ⟨w.heap.size + 1 + 1, 3, none⟩ = some (.slice K2 lk2 ck2) ∧ Lat W0 W := fun W hW => by
                obtain ⟨_, _, _, _, _, _, _, _, c0, c1, c2, c3, hl⟩ := HBOX.out W (hL9.then_ hW)
                obtain ⟨p0, p1, p2, p3⟩ := hW.box hqn
                exact ⟨p0, p1, p2, p3, c0, c1, c2, c3, hl⟩
              have hz2 := HZ2.out
              have hfit := normF_fit _ n2 (Nat.le_refl _) HY2.out
              have hn2 := norm_any (normF n2) (by rw [norm_sz]; omega) hfit _ (.agg #[.int .i64 o9, .int .i64 m9, .slice A9 la9 ca9, .slice K9 lk9 ck9]) W9.drew ⟨_, _, _, _, rfl, (Lat.drew (Lat.refl W9)).tm hk9'⟩
              rw [norm_idem] at hn2
              have hS0 := hbx W9.drew (Lat.drew (Lat.refl W9))
              have HBX9 := Lib.hid hbx
              have HN2 := Lib.hid hn2
              have HK9 := Lib.hid hk9'
              have HL9 := Lib.hid hL9
              clear hbx hn2 hk9' hL9 hz2 hfit hbn hqn hk9 hb9 HNN j0 j1 j2 j3 j4 j5 j6 j7 j8 j9 j10 j11
              go_wp2_with fail
              clear hW9
              cases R with
              | true =>
                have hnr := HNR.out rfl
                have hk2 := HK2.out
                have HNR' := Lib.hid hnr
                clear hk2 hnr
                first | (go_region_held3 (fun W => W.cell? ⟨wn.heap.size, 0, none⟩ = some (.int .i64 o9) ∧ W.cell? ⟨wn.heap.size, 1, none⟩ = some (.int .i64 m9) ∧ W.cell? ⟨wn.heap.size, 2, none⟩ = some (.slice A9 la9 ca9) ∧ W.cell? ⟨wn.heap.size, 3, none⟩ = some (.slice K9 lk9 ck9) ∧ W.cell? ⟨w.heap.size + 1 + 1, 0, none⟩ = some (.int .i64 o2) ∧ W.cell? ⟨w.heap.size + 1 + 1, 1, none⟩ = some (.int .i64 m2) ∧ W.cell? ⟨w.heap.size + 1 + 1, 2, none⟩ = some (.slice A2 la2 ca2) ∧ W.cell? ⟨w.heap.size + 1 + 1, 3, none⟩ = some (.slice K2 lk2 ck2) ∧ Lat W0 W) (first | exact hS0 | exact hSN | exact hSO | exact hSR | exact hSP) ((first
                  | (go_at_call 21; refine HN2.out.mono ?_; rintro e wN ⟨v10, rfl, ⟨q0, q1, q2, q3, rfl, hkN⟩, hbN⟩; obtain ⟨o10, m10, A10, la10, ca10, K10, lk10, ck10, rfl, rfl, rfl, rfl⟩ := hkN.shape; have hLN : Lat W9 wN := Lat.then_ (Lat.drew (Lat.refl W9)) hbN; have hSN := HBX9.out wN hLN)
                  | (go_at_call_of 17 o10; refine (order_same (normF n2) _ _ (.agg #[.int .i64 o10, .int .i64 m10, .slice A10 la10 ca10, .slice K10 lk10 ck10]) (.agg #[.int .i64 o9, .int .i64 m9, .slice A9 la9 ca9, .slice K9 lk9 ck9]) _ ⟨_, _, _, _, rfl, hkN⟩ ⟨_, _, _, _, rfl, hLN.tm HK9.out⟩).mono ?_; rintro e wO ⟨rfl, hbO⟩; have hLO := hLN.then_ hbO; have hSO := HBX9.out wO hLO)
                  | (go_at_call 12; refine (HRT.out wO (HL9.out.then_ hLO)).mono ?_; rintro e wR ⟨rfl, hbR⟩; have hLR := hLO.then_ hbR; have hSR := HBX9.out wR hLR)
                  | (go_at_call_of 17 o2; refine (order_norm HNR'.out (.agg #[.int .i64 o9, .int .i64 m9, .slice A9 la9 ca9, .slice K9 lk9 ck9]) (.agg #[.int .i64 o2, .int .i64 m2, .slice A2 la2 ca2, .slice K2 lk2 ck2]) _ ⟨_, _, _, _, rfl, hLR.tm HK9.out⟩ ⟨_, _, _, _, rfl, (HL9.out.then_ hLR).tm HK2.out⟩).mono ?_; rintro e wP ⟨rfl, hbP⟩; have hLP := hLR.then_ hbP; have hSP := HBX9.out wP hLP))))
                have hend := (HL9.out.then_ hLP).below HB0.out
                clear hS0 hSN hSO hSR hSP
                go_wp2
                go_ret
                exact ⟨rfl, hend⟩
              | false =>
                refine wp_region_noPanic ?_
                refine wp_region_held_drew (S := fun W => W.cell? ⟨wn.heap.size, 0, none⟩ = some (.int .i64 o9) ∧ W.cell? ⟨wn.heap.size, 1, none⟩ = some (.int .i64 m9) ∧ W.cell? ⟨wn.heap.size, 2, none⟩ = some (.slice A9 la9 ca9) ∧ W.cell? ⟨wn.heap.size, 3, none⟩ = some (.slice K9 lk9 ck9) ∧ W.cell? ⟨w.heap.size + 1 + 1, 0, none⟩ = some (.int .i64 o2) ∧ W.cell? ⟨w.heap.size + 1 + 1, 1, none⟩ = some (.int .i64 m2) ∧ W.cell? ⟨w.heap.size + 1 + 1, 2, none⟩ = some (.slice A2 la2 ca2) ∧ W.cell? ⟨w.heap.size + 1 + 1, 3, none⟩ = some (.slice K2 lk2 ck2) ∧ Lat W0 W) (by kernel_rfl) hS0 (fun hHeld => ?_)
                refine takeW 0 19 (by kernel_rfl) rfl (by kernel_rfl) (by kernel_rfl) (by kernel_rfl) (by assumption) (by kernel_rfl) ?_ (fun w hw => ?_) ?_
                rotate_left
                · obtain ⟨s0, s1, s2, s3, s4, s5, s6, s7, _⟩ := hw
                  go_simp
                  try with_reducible rfl
                simp only [Act.put, List.setIfInBounds_toArray, List.set_cons_zero, List.set_cons_succ, List.getElem_toArray, List.getElem_cons_zero]
                refine takeW 1 18 (by kernel_rfl) rfl (by kernel_rfl) (by kernel_rfl) (by kernel_rfl) (by assumption) (by kernel_rfl) ?_ (fun w hw => ?_) ?_
                rotate_left
                · obtain ⟨s0, s1, s2, s3, s4, s5, s6, s7, _⟩ := hw
                  go_simp
                  try with_reducible rfl
                simp only [Act.put, List.setIfInBounds_toArray, List.set_cons_zero, List.set_cons_succ, List.getElem_toArray, List.getElem_cons_succ, List.getElem_cons_zero]
                refine takeW 2 17 (by kernel_rfl) rfl (by kernel_rfl) (by kernel_rfl) (by kernel_rfl) (by assumption) (by kernel_rfl) ?_ (fun w hw => ?_) ?_
                rotate_left
                · obtain ⟨s0, s1, s2, s3, s4, s5, s6, s7, _⟩ := hw
                  go_simp
                  try with_reducible rfl
                simp only [Act.put, List.setIfInBounds_toArray, List.set_cons_zero, List.set_cons_succ, List.getElem_toArray, List.getElem_cons_succ, List.getElem_cons_zero]
                refine takeW 4 16 (by kernel_rfl) rfl (by kernel_rfl) (by kernel_rfl) (by kernel_rfl) (by assumption) (by kernel_rfl) ?_ (fun w hw => ?_) ?_
                rotate_left
                · obtain ⟨s0, s1, s2, s3, s4, s5, s6, s7, _⟩ := hw
                  go_simp
                  try with_reducible rfl
                simp only [Act.put, List.setIfInBounds_toArray, List.set_cons_zero, List.set_cons_succ, List.getElem_toArray, List.getElem_cons_succ, List.getElem_cons_zero]
                refine readyOne 3 15 (by kernel_rfl) rfl (by kernel_rfl) (by kernel_rfl) (fun K hK => ?_)
                go_simp
                refine HN2.out.mono ?_
                rintro e wN ⟨v10, rfl, ⟨q0, q1, q2, q3, rfl, hkN⟩, hbN⟩
                obtain ⟨o10, m10, A10, la10, ca10, K10, lk10, ck10, rfl, rfl, rfl, rfl⟩ := hkN.shape
                have hLN : Lat W9 wN := Lat.then_ (Lat.drew (Lat.refl W9)) hbN
                have hSN := HBX9.out wN hLN
                refine hK _ _ hSN ?_
                clear hK K
                refine readyOne 5 14 (by kernel_rfl) rfl (by kernel_rfl) (by kernel_rfl) (fun K hK => ?_)
                go_simp
                refine (order_same (normF n2) _ _ (.agg #[.int .i64 o10, .int .i64 m10, .slice A10 la10 ca10, .slice K10 lk10 ck10]) (.agg #[.int .i64 o9, .int .i64 m9, .slice A9 la9 ca9, .slice K9 lk9 ck9]) _ ⟨_, _, _, _, rfl, hkN⟩ ⟨_, _, _, _, rfl, hLN.tm HK9.out⟩).mono ?_
                rintro e wO ⟨rfl, hbO⟩
                have hLO := hLN.then_ hbO
                have hSO := HBX9.out wO hLO
                refine hK _ _ hSO ?_
                clear hK K
                refine takeW 6 13 (by kernel_rfl) rfl (by kernel_rfl) (by kernel_rfl) (by kernel_rfl) (by assumption) (by kernel_rfl) ?_ (fun w hw => ?_) ?_
                rotate_left
                · obtain ⟨s0, s1, s2, s3, s4, s5, s6, s7, _⟩ := hw
                  go_simp
                  try with_reducible rfl
                simp only [Act.put, List.setIfInBounds_toArray, List.set_cons_zero, List.set_cons_succ, List.getElem_toArray, List.getElem_cons_succ, List.getElem_cons_zero]
                refine takeW 7 12 (by kernel_rfl) rfl (by kernel_rfl) (by kernel_rfl) (by kernel_rfl) (by assumption) (by kernel_rfl) ?_ (fun w hw => ?_) ?_
                rotate_left
                · obtain ⟨s0, s1, s2, s3, s4, s5, s6, s7, _⟩ := hw
                  go_simp
                  try with_reducible rfl
                simp only [Act.put, List.setIfInBounds_toArray, List.set_cons_zero, List.set_cons_succ, List.getElem_toArray, List.getElem_cons_succ, List.getElem_cons_zero]
                refine takeW 8 11 (by kernel_rfl) rfl (by kernel_rfl) (by kernel_rfl) (by kernel_rfl) (by assumption) (by kernel_rfl) ?_ (fun w hw => ?_) ?_
                rotate_left
                · obtain ⟨s0, s1, s2, s3, s4, s5, s6, s7, _⟩ := hw
                  go_simp
                  try with_reducible rfl
                simp only [Act.put, List.setIfInBounds_toArray, List.set_cons_zero, List.set_cons_succ, List.getElem_toArray, List.getElem_cons_succ, List.getElem_cons_zero]
                refine takeW 9 10 (by kernel_rfl) rfl (by kernel_rfl) (by kernel_rfl) (by kernel_rfl) (by assumption) (by kernel_rfl) ?_ (fun w hw => ?_) ?_
                rotate_left
                · obtain ⟨s0, s1, s2, s3, s4, s5, s6, s7, _⟩ := hw
                  go_simp
                  try with_reducible rfl
                simp only [Act.put, List.setIfInBounds_toArray, List.set_cons_zero, List.set_cons_succ, List.getElem_toArray, List.getElem_cons_succ, List.getElem_cons_zero]
                refine readyOne 10 9 (by kernel_rfl) rfl (by kernel_rfl) (by kernel_rfl) (fun K hK => ?_)
                go_simp
                refine (HRT.out wO (HL9.out.then_ hLO)).mono ?_
                rintro e wR ⟨rfl, hbR⟩
                have hLR := hLO.then_ hbR
                have hSR := HBX9.out wR hLR
                refine hK _ _ hSR ?_
                clear hK K
                refine takeW 11 8 (by kernel_rfl) rfl (by kernel_rfl) (by kernel_rfl) (by kernel_rfl) (by assumption) (by kernel_rfl) ?_ (fun w hw => ?_) ?_
                rotate_left
                · obtain ⟨s0, s1, s2, s3, s4, s5, s6, s7, _⟩ := hw
                  go_simp
                  try with_reducible rfl
                simp only [Act.put, List.setIfInBounds_toArray, List.set_cons_zero, List.set_cons_succ, List.getElem_toArray, List.getElem_cons_succ, List.getElem_cons_zero]
                refine takeW 12 7 (by kernel_rfl) rfl (by kernel_rfl) (by kernel_rfl) (by kernel_rfl) (by assumption) (by kernel_rfl) ?_ (fun w hw => ?_) ?_
                rotate_left
                · obtain ⟨s0, s1, s2, s3, s4, s5, s6, s7, _⟩ := hw
                  go_simp
                  try with_reducible rfl
                simp only [Act.put, List.setIfInBounds_toArray, List.set_cons_zero, List.set_cons_succ, List.getElem_toArray, List.getElem_cons_succ, List.getElem_cons_zero]
                refine takeU 13 6 (by kernel_rfl) rfl (by kernel_rfl) (by kernel_rfl) (by kernel_rfl) (by assumption) (by kernel_rfl) ?_
                simp only [Act.put, List.setIfInBounds_toArray, List.set_cons_zero, List.set_cons_succ, List.getElem_toArray, List.getElem_cons_succ, List.getElem_cons_zero]
                refine takeU 14 5 (by kernel_rfl) rfl (by kernel_rfl) (by kernel_rfl) (by kernel_rfl) (by assumption) (by kernel_rfl) ?_
                simp only [Act.put, List.setIfInBounds_toArray, List.set_cons_zero, List.set_cons_succ, List.getElem_toArray, List.getElem_cons_succ, List.getElem_cons_zero]
                refine takeU 15 4 (by kernel_rfl) rfl (by kernel_rfl) (by kernel_rfl) (by kernel_rfl) (by assumption) (by kernel_rfl) ?_
                simp only [Act.put, List.setIfInBounds_toArray, List.set_cons_zero, List.set_cons_succ, List.getElem_toArray, List.getElem_cons_succ, List.getElem_cons_zero]
                refine takeU 16 3 (by kernel_rfl) rfl (by kernel_rfl) (by kernel_rfl) (by kernel_rfl) (by assumption) (by kernel_rfl) ?_
                simp only [Act.put, List.setIfInBounds_toArray, List.set_cons_zero, List.set_cons_succ, List.getElem_toArray, List.getElem_cons_succ, List.getElem_cons_zero]
                refine takeW 17 2 (by kernel_rfl) rfl (by kernel_rfl) (by kernel_rfl) (by kernel_rfl) (by assumption) (by kernel_rfl) ?_ (fun w hw => ?_) ?_
                rotate_left
                · obtain ⟨s0, s1, s2, s3, s4, s5, s6, s7, _⟩ := hw
                  go_simp
                  try with_reducible rfl
                simp only [Act.put, List.setIfInBounds_toArray, List.set_cons_zero, List.set_cons_succ, List.getElem_toArray, List.getElem_cons_succ, List.getElem_cons_zero]
                refine takeW 18 1 (by kernel_rfl) rfl (by kernel_rfl) (by kernel_rfl) (by kernel_rfl) (by assumption) (by kernel_rfl) ?_ (fun w hw => ?_) ?_
                rotate_left
                · obtain ⟨s0, s1, s2, s3, s4, s5, s6, s7, _⟩ := hw
                  go_simp
                  try with_reducible rfl
                simp only [Act.put, List.setIfInBounds_toArray, List.set_cons_zero, List.set_cons_succ, List.getElem_toArray, List.getElem_cons_succ, List.getElem_cons_zero]
                refine takeW 19 0 (by kernel_rfl) rfl (by kernel_rfl) (by kernel_rfl) (by kernel_rfl) (by assumption) (by kernel_rfl) ?_ (fun w hw => ?_) ?_
                rotate_left
                · obtain ⟨s0, s1, s2, s3, s4, s5, s6, s7, _⟩ := hw
                  go_simp
                  try with_reducible rfl
                simp only [Act.put, List.setIfInBounds_toArray, List.set_cons_zero, List.set_cons_succ, List.getElem_toArray, List.getElem_cons_succ, List.getElem_cons_zero]
                refine wpAnyH_done (by kernel_rfl) ?_ _
                refine NoPanic.normal ?_
                have hend := (HL9.out.then_ hLR).below HB0.out
                clear hS0 hSN hSO hSR
                go_wp2
                go_ret
                exact ⟨rfl, hend⟩

set_option maxRecDepth 100000 in
theorem lifted (os : Os) (started : os.Started) (H : Type) (enc : TypeId × Value → H) :
    ReturnsInHanded {} Try.checked os 7 .any (Rows.termsLawsSpec.pre6 enc Try.prog Try.f7 Rows.termsLawsRow.domain false) (Rows.termsLawsSpec.post enc Try.prog Try.f7 false true false false) := by
  refine returnsInHanded_of_change_sized (C := Try.checked) own started (by kernel_rfl) Try.func7
    (ChangeSpec.witness6 (enc := enc) (C := Try.checked) false ⟨#[], #[.agg #[.int .i64 0, .int .i64 0, .slice none 0 0, .slice none 0 0], .agg #[.int .i64 0, .int .i64 0, .slice none 0 0, .slice none 0 0], .agg #[.int .i64 0, .int .i64 0, .slice none 0 0, .slice none 0 0]], []⟩ 8 (by kernel_rfl) (by kernel_rfl) (by kernel_rfl) (by kernel_rfl)) ?_
  intro W base args ds gs before hval0 hW hcnd hsz0 _
  have hval : ∀ (j : Nat) t v, Try.f7.params[j]? = some t → args[j]? = some v → Value.okWide Try.prog W .any base t v := hval0
  have hW' := hW
  obtain ⟨p, q, hA0, hV, rfl, hfz, hnd⟩ := hW
  have hA : DataW.TrodAll enc Try.prog W 0 (fun _ => true) true Try.f7.params.toList args.toList ds p := hA0
  have hsz : (DataW.weightsEach Try.prog (Try.f7.params.toList ++ Rows.termsLawsSpec.plain.varTypes Try.prog) (ds ++ gs)).all (· ≤ reachBytes) = true := hsz0
  rw [Try.params7] at hA hval hsz
  obtain ⟨v0, vs0, d0, ds0, p0, q0, hargs, rfl, rfl, h0, r_0⟩ := trodAll_cons hA
  obtain ⟨v1, vs1, d1, ds1, p1, q1, rfl, rfl, rfl, h1, r_1⟩ := trodAll_cons r_0
  obtain ⟨v2, vs2, d2, ds2, p2, q2, rfl, rfl, rfl, h2, r_2⟩ := trodAll_cons r_1
  obtain ⟨rfl, rfl, rfl⟩ := trodAll_nil r_2
  obtain rfl : args = #[v0, v1, v2] := by cases args; simp_all
  obtain ⟨rfl, rfl⟩ := trodVars_none hV
  have k0 := h0
  have lt0 : ∀ x ∈ p0, x.block < W.heap.size := by obtain ⟨m, hm⟩ := k0; exact DataW.trod_lt m _ _ _ hm
  obtain ⟨n0, c0_0, c0_1, c0_2, c0_3, rfl, w0, z0⟩ := tmc.open_tm ({ U := _, f0 := _, f1 := _, f2 := _, f3 := _, hT := Try.underlying26, hone := by kernel_rfl, hC := by kernel_rfl, e0 := Try.underlying22, e1 := Try.underlying2, e2 := Try.underlying23, eU := Try.underlying5, cU := by kernel_rfl, bU := by kernel_rfl, e3 := Try.underlying24 }) (hval 0 26 v0 rfl rfl) h0
  have y0 := z0 (tmc.each_fit hsz (j := 0) rfl rfl)
  have k1 := h1
  have lt1 : ∀ x ∈ p1, x.block < W.heap.size := by obtain ⟨m, hm⟩ := k1; exact DataW.trod_lt m _ _ _ hm
  obtain ⟨n1, c1_0, c1_1, c1_2, c1_3, rfl, w1, z1⟩ := tmc.open_tm ({ U := _, f0 := _, f1 := _, f2 := _, f3 := _, hT := Try.underlying26, hone := by kernel_rfl, hC := by kernel_rfl, e0 := Try.underlying22, e1 := Try.underlying2, e2 := Try.underlying23, eU := Try.underlying5, cU := by kernel_rfl, bU := by kernel_rfl, e3 := Try.underlying24 }) (hval 1 26 v1 rfl rfl) h1
  have y1 := z1 (tmc.each_fit hsz (j := 1) rfl rfl)
  have k2 := h2
  have lt2 : ∀ x ∈ p2, x.block < W.heap.size := by obtain ⟨m, hm⟩ := k2; exact DataW.trod_lt m _ _ _ hm
  obtain ⟨n2, c2_0, c2_1, c2_2, c2_3, rfl, w2, z2⟩ := tmc.open_tm ({ U := _, f0 := _, f1 := _, f2 := _, f3 := _, hT := Try.underlying26, hone := by kernel_rfl, hC := by kernel_rfl, e0 := Try.underlying22, e1 := Try.underlying2, e2 := Try.underlying23, eU := Try.underlying5, cU := by kernel_rfl, bU := by kernel_rfl, e3 := Try.underlying24 }) (hval 2 26 v2 rfl rfl) h2
  have y2 := z2 (tmc.each_fit hsz (j := 2) rfl rfl)
  clear hA0 hval0
  refine (walk n0 c0_0 c0_1 c0_2 c0_3 n1 c1_0 c1_1 c1_2 c1_3 n2 c2_0 c2_1 c2_2 c2_3 W w0 y0 w1 y1 w2 y2).mono fun e W' ⟨he, bel⟩ => ?_
  subst he
  exact ⟨_, rfl, _, _, _, [], _, [], hW', trodAll_mk1 (shut_bool Try.underlying4 _), (trodAll_cons_mk (Below.trod laidOut (by kernel_rfl) (of_decide_eq_true (by kernel_rfl)) k0 bel lt0) (trodAll_cons_mk (Below.trod laidOut (by kernel_rfl) (of_decide_eq_true (by kernel_rfl)) k1 bel lt1) (trodAll_cons_mk (Below.trod laidOut (by kernel_rfl) (of_decide_eq_true (by kernel_rfl)) k2 bel lt2) trodAll_mk0))), rfl, bel.frame _, fun h => by cases h⟩

theorem over : Rows.termsLawsRow.holds Try.pinned (OpenSpec.ofChange Rows.termsLawsSpec) :=
  OpenClaim.holds_of_wide 7 Try.f7 rfl rfl rfl rfl rfl rfl rfl ⟨rfl, rfl, rfl, rfl, rfl⟩ rfl rfl rfl rfl rfl (by kernel_rfl) Try.func7 (by kernel_rfl)
    (of_decide_eq_true (by kernel_rfl)) (by unfold Func.isWrapper; first | (rw [if_pos (by decide +kernel)]; kernel_rfl) | (rw [if_neg (by decide +kernel)]; exact ⟨rfl, rfl⟩))
    (fun os started H enc _ => lifted os started H enc)

theorem proved : Rows.TermsLawsSaid := over
#print axioms proved
end Go.Proofs.Ytoaacacbjimloaa.termsLaws
