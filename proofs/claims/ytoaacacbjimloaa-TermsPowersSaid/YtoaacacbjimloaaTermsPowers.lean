/- The law TermsPowers of warderlaw05 answers true for every two terms, and leaves its arguments as they were; no condition. -/
import Derived.Test.YtoaacacbjimloaaRows
import Derived.WalkKit
import Derived.ProofKit
import Derived.OpenShut
import Derived.ChangeOld
import Derived.Below
import Derived.SizedLaws
import Derived.Test.YtoaacacbjimloaaTlvO
import Derived.Test.YtoaacacbjimloaaTmOp
import Derived.Test.YtoaacacbjimloaaTmL
import Derived.Deep.LoopGhost
namespace Go.Proofs.Ytoaacacbjimloaa.termsPowers
open Go.ChangeShapes Go.WideShapes Go.ChangeAt Go.RowKit
set_option linter.unusedVariables false

theorem own : ownKnob Try.prog.godebug = none := by kernel_rfl
theorem laidOut : laidOutB Try.prog = true := by kernel_rfl

open Go.Proofs.Ytoaacacbjimloaa.tlvc Go.Proofs.Ytoaacacbjimloaa.tmc

set_option maxRecDepth 100000 in
set_option maxHeartbeats 8000000 in
theorem walk (n0 : tmc.Tm) (c0_0 c0_1 c0_2 c0_3 : Value) (n1 : tmc.Tm) (c1_0 c1_1 c1_2 c1_3 : Value) (w : World) (w0 : tmc.TmC (fun _ => True) w n0 c0_0 c0_1 c0_2 c0_3) (y0 : tmc.fitD n0) (w1 : tmc.TmC (fun _ => True) w n1 c1_0 c1_1 c1_2 c1_3) (y1 : tmc.fitD n1) :
    Calls Try.prog 9 #[.agg #[c0_0, c0_1, c0_2, c0_3], .agg #[c1_0, c1_1, c1_2, c1_3]] w fun e w' => e = .returned (.bool true) ∧ Below w.heap.size w w' := by
  obtain ⟨op, nm, dd, ks⟩ := n0
  obtain ⟨o0, m0, A0, la0, ca0, K0, lk0, ck0, rfl, rfl, rfl, rfl⟩ := w0.shape
  obtain ⟨o1, m1, A1, la1, ca1, K1, lk1, ck1, rfl, rfl, rfl, rfl⟩ := w1.shape
  obtain ⟨W0, hW0⟩ : ∃ y, (w.alloc (.cells #[.int .i64 o0, .int .i64 m0, .slice A0 la0 ca0, .slice K0 lk0 ck0] 26)).alloc (.cells #[.int .i64 o1, .int .i64 m1, .slice A1 la1 ca1, .slice K1 lk1 ck1] 26) = y := ⟨_, rfl⟩
  have hb0 : Below w.heap.size w W0 := by rw [← hW0]; exact (below_new _ _).alloc (by simp) _
  have hq0 : W0.heap[w.heap.size]? = some (.cells #[.int .i64 o0, .int .i64 m0, .slice A0 la0 ca0, .slice K0 lk0 ck0] 26) := by rw [← hW0, heap_old_ _ _ (by simp)]; exact heap_new_ _ _
  have hk0 := TmC.below hb0 _ _ _ _ _ w0
  have hq1 : W0.heap[w.heap.size + 1]? = some (.cells #[.int .i64 o1, .int .i64 m1, .slice A1 la1 ca1, .slice K1 lk1 ck1] 26) := by
    rw [← hW0]
    have := heap_new_ (w.alloc (.cells #[.int .i64 o0, .int .i64 m0, .slice A0 la0 ca0, .slice K0 lk0 ck0] 26)) (.cells #[.int .i64 o1, .int .i64 m1, .slice A1 la1 ca1, .slice K1 lk1 ck1] 26)
    rwa [show (w.alloc (.cells #[.int .i64 o0, .int .i64 m0, .slice A0 la0 ca0, .slice K0 lk0 ck0] 26)).heap.size = w.heap.size + 1 by simp] at this
  have hk1 := TmC.below hb0 _ _ _ _ _ w1
  have hbox : ∀ W, Lat W0 W → W.cell? ⟨w.heap.size, 0, none⟩ = some (.int .i64 o0) ∧ W.cell? ⟨w.heap.size, 1, none⟩ = some (.int .i64 m0) ∧ W.cell? ⟨w.heap.size, 2, none⟩ = some (.slice A0 la0 ca0) ∧ W.cell? ⟨w.heap.size, 3, none⟩ = some (.slice K0 lk0 ck0) ∧ W.cell? ⟨w.heap.size + 1, 0, none⟩ = some (.int .i64 o1) ∧ W.cell? ⟨w.heap.size + 1, 1, none⟩ = some (.int .i64 m1) ∧ W.cell? ⟨w.heap.size + 1, 2, none⟩ = some (.slice A1 la1 ca1) ∧ W.cell? ⟨w.heap.size + 1, 3, none⟩ = some (.slice K1 lk1 ck1) ∧ Lat W0 W := fun W hW => by
    obtain ⟨a0, b0, c0, d0⟩ := hW.box hq0
    obtain ⟨a1, b1, c1, d1⟩ := hW.box hq1
    exact ⟨a0, b0, c0, d0, a1, b1, c1, d1, hW⟩
  have hgreat0 := fun W (hW : Lat W0 W) => great_any (fun _ => True) (.mk op nm dd ks) (.agg #[.int .i64 o0, .int .i64 m0, .slice A0 la0 ca0, .slice K0 lk0 ck0]) W ⟨_, _, _, _, rfl, hW.tm hk0⟩
  have hgreat1 := fun W (hW : Lat W0 W) => great_any (fun _ => True) n1 (.agg #[.int .i64 o1, .int .i64 m1, .slice A1 la1 ca1, .slice K1 lk1 ck1]) W ⟨_, _, _, _, rfl, hW.tm hk1⟩
  have hb0' : greatB (.mk op nm dd ks) = false → szT (.mk op nm dd ks) ≤ 2000 := fun h => great_no h
  have hb1' : greatB n1 = false → szT n1 ≤ 2000 := fun h => great_no h
  have hpow := fun (hs : szT (.mk op nm dd ks) + szT n1 ≤ 100000) W (hW : Lat W0 W) => pow_any (.mk op nm dd ks) n1 (fun _ => True) (fun _ => True) (.agg #[.int .i64 o0, .int .i64 m0, .slice A0 la0 ca0, .slice K0 lk0 ck0]) (.agg #[.int .i64 o1, .int .i64 m1, .slice A1 la1 ca1, .slice K1 lk1 ck1]) W ⟨_, _, _, _, rfl, hW.tm hk0⟩ ⟨_, _, _, _, rfl, hW.tm hk1⟩ hs
  have hsize0 := fun (hs : szT (.mk op nm dd ks) ≤ 1000000) W (hW : Lat W0 W) => size_any _ (.mk op nm dd ks) (Nat.le_refl _) hs (.agg #[.int .i64 o0, .int .i64 m0, .slice A0 la0 ca0, .slice K0 lk0 ck0]) W ⟨_, _, _, _, rfl, hW.tm hk0⟩
  have hsize1 := fun (hs : szT n1 ≤ 1000000) W (hW : Lat W0 W) => size_any _ n1 (Nat.le_refl _) hs (.agg #[.int .i64 o1, .int .i64 m1, .slice A1 la1 ca1, .slice K1 lk1 ck1]) W ⟨_, _, _, _, rfl, hW.tm hk1⟩
  obtain ⟨hlen, hlc, hck9, _⟩ := kid_at hk0
  have hkid := fun W (hW : Lat W0 W) => (kid_at (hW.tm hk0)).2.2.2
  have hsx : ∀ P, powF (.mk op nm dd ks) n1 = some P → rightF (.mk op nm dd ks) 0 = true ∧ rightF n1 0 = true ∧ (Tm.mk op nm dd ks).op = 7 ∧ P = pow0 (.mk op nm dd ks) n1 ∧ rightF P 0 = true := fun P h => powF_some h
  obtain ⟨G0, hG0⟩ : ∃ y, greatB (.mk op nm dd ks) = y := ⟨_, rfl⟩
  obtain ⟨G1, hG1⟩ : ∃ y, greatB n1 = y := ⟨_, rfl⟩
  obtain ⟨PW, hPW⟩ : ∃ y, powF (.mk op nm dd ks) n1 = y := ⟨_, rfl⟩
  obtain ⟨Z0, hZ0⟩ : ∃ y, szT (.mk op nm dd ks) = y := ⟨_, rfl⟩
  obtain ⟨Z1, hZ1⟩ : ∃ y, szT n1 = y := ⟨_, rfl⟩
  have hpsz : szT (pow0 (.mk op nm dd ks) n1) = Z0 + Z1 := by rw [pow0_sz, hZ0, hZ1]
  rw [hG0] at hgreat0 hb0'
  rw [hG1] at hgreat1 hb1'
  rw [hPW] at hpow hsx
  rw [hZ0] at hb0' hpow hsize0
  rw [hZ1] at hb1' hpow hsize1
  have HBOX := Lib.hid hbox
  have HG0 := Lib.hid hgreat0
  have HG1 := Lib.hid hgreat1
  have HBD0 := Lib.hid hb0'
  have HBD1 := Lib.hid hb1'
  have HP := Lib.hid hpow
  have HS0 := Lib.hid hsize0
  have HS1 := Lib.hid hsize1
  have HKID := Lib.hid hkid
  have HSX := Lib.hid hsx
  have HPSZ := Lib.hid hpsz
  have HB0 := Lib.hid hb0
  have HLEN := Lib.hid hlen
  have HK1 := Lib.hid hk1
  clear hbox hgreat0 hgreat1 hb0' hb1' hpow hsize0 hsize1 hkid hsx hpsz hb0 hlen hk1 hG0 hG1 hPW hZ0 hZ1 hq0 hq1 hk0 w0 w1
  go_enter Try.func9, Try.ntmps9
  go_wp2_with fail
  clear hW0
  refine (head_any W0).mono ?_
  rintro e wa ⟨rfl, hba⟩
  have HLA : Lat W0 wa := hba
  obtain ⟨k0, k1, k2, k3, k4, k5, k6, k7, _⟩ := HBOX.out wa HLA
  have HL := Lib.hid HLA
  clear hba HLA
  go_wp2_with fail
  refine (HG0.out wa HL.out).mono ?_
  rintro e wb ⟨rfl, hbb⟩
  have hLb := HL.out.then_ hbb
  clear hbb HL k0 k1 k2 k3 k4 k5 k6 k7
  cases G0 with
  | true =>
    have hend := hLb.below HB0.out
    clear hLb
    go_wp2
    go_ret
    exact ⟨rfl, hend⟩
  | false =>
    obtain ⟨k0, k1, k2, k3, k4, k5, k6, k7, _⟩ := HBOX.out wb hLb
    have HLb := Lib.hid hLb
    clear hLb
    go_wp2_with fail
    refine (HG1.out wb HLb.out).mono ?_
    rintro e wb ⟨rfl, hbb⟩
    have hLb := HLb.out.then_ hbb
    clear hbb HLb k0 k1 k2 k3 k4 k5 k6 k7
    cases G1 with
    | true =>
      have hend := hLb.below HB0.out
      clear hLb
      go_wp2
      go_ret
      exact ⟨rfl, hend⟩
    | false =>
      have hz0 := HBD0.out (by first | rfl | trivial)
      have hz1 := HBD1.out (by first | rfl | trivial)
      obtain ⟨k0, k1, k2, k3, k4, k5, k6, k7, _⟩ := HBOX.out wb hLb
      have hp := HP.out (by omega) wb hLb
      have HP2 := Lib.hid hp
      have HLb := Lib.hid hLb
      clear hLb hp HP HBD0 HBD1
      go_wp2_with fail
      refine HP2.out.mono ?_
      rintro e wc ⟨v2, rfl, ⟨c2_0, c2_1, c2_2, c2_3, rfl, hk2⟩, hbc⟩
      have hLc := HLb.out.then_ hbc
      obtain ⟨o2, m2, A2, la2, ca2, K2, lk2, ck2, rfl, rfl, rfl, rfl⟩ := hk2.shape
      obtain ⟨W5, hW5⟩ : ∃ y, wc.alloc (.cells #[.int .i64 o2, .int .i64 m2, .slice A2 la2 ca2, .slice K2 lk2 ck2] 26) = y := ⟨_, rfl⟩
      have hb5 : Below wc.heap.size wc W5 := by rw [← hW5]; exact below_new _ _
      have hq5 : W5.heap[wc.heap.size]? = some (.cells #[.int .i64 o2, .int .i64 m2, .slice A2 la2 ca2, .slice K2 lk2 ck2] 26) := by rw [← hW5]; exact heap_new_ _ _
      have hL5 : Lat W0 W5 := hLc.then_ hb5
      have hk5 := TmC.below hb5 _ _ _ _ _ hk2
      have hbox2 : ∀ W, Lat W5 W → W.cell? ⟨w.heap.size, 0, none⟩ = some (.int .i64 o0) ∧ W.cell? ⟨w.heap.size, 1, none⟩ = some (.int .i64 m0) ∧ W.cell? ⟨w.heap.size, 2, none⟩ = some (.slice A0 la0 ca0) ∧ W.cell? ⟨w.heap.size, 3, none⟩ = some (.slice K0 lk0 ck0) ∧ W.cell? ⟨w.heap.size + 1, 0, none⟩ = some (.int .i64 o1) ∧ W.cell? ⟨w.heap.size + 1, 1, none⟩ = some (.int .i64 m1) ∧ W.cell? ⟨w.heap.size + 1, 2, none⟩ = some (.slice A1 la1 ca1) ∧ W.cell? ⟨w.heap.size + 1, 3, none⟩ = some (.slice K1 lk1 ck1) ∧ W.cell? ⟨wc.heap.size, 0, none⟩ = some (.int .i64 o2) ∧ W.cell? ⟨wc.heap.size, 1, none⟩ = some (.int .i64 m2) ∧ W.cell? ⟨wc.heap.size, 2, none⟩ = some (.slice A2 la2 ca2) ∧ W.cell? ⟨wc.heap.size, 3, none⟩ = some (.slice K2 lk2 ck2) ∧ Lat W5 W ∧ Lat W0 W := fun W hW => by
        have hl : Lat W0 W := hL5.then_ hW
        obtain ⟨k0, k1, k2, k3, k4, k5, k6, k7, _⟩ := HBOX.out W hl
        obtain ⟨p0, p1, p2, p3⟩ := hW.box hq5
        exact ⟨k0, k1, k2, k3, k4, k5, k6, k7, p0, p1, p2, p3, hW, hl⟩
      have HBX2 := Lib.hid hbox2
      have HL5 := Lib.hid hL5
      have HK5 := Lib.hid hk5
      clear hk2 hbc hLc hb5 hq5 hL5 hk5 hbox2 HP2 HLb k0 k1 k2 k3 k4 k5 k6 k7
      obtain ⟨k0, k1, k2, k3, k4, k5, k6, k7, p0, p1, p2, p3, _, _⟩ := HBX2.out W5 (Lat.refl _)
      cases PW with
      | none =>
        have hkk : TmC (fun g => wb.heap.size ≤ g) W5 (.mk 0 0 [] []) (.int .i64 o2) (.int .i64 m2) (.slice A2 la2 ca2) (.slice K2 lk2 ck2) := HK5.out
        have ho2 : o2 = 0 := by unfold TmC at hkk; have := hkk.1; cases this; rfl
        have hl2 : lk2 = 0 := by have := (term_kids hkk).1; rw [← this]; rfl
        subst ho2 hl2
        have hend := HL5.out.below HB0.out
        clear hkk
        go_wp2
        go_ret
        exact ⟨rfl, hend⟩
      | some P =>
        obtain ⟨hr0, hr1, hop, rfl, hrp⟩ := HSX.out P rfl
        have hkp : TmC (fun g => wb.heap.size ≤ g) W5 (.mk 7 0 [] (putF ks n1)) (.int .i64 o2) (.int .i64 m2) (.slice A2 la2 ca2) (.slice K2 lk2 ck2) := HK5.out
        have hsort := (right_mk.1 hr0).2.2.2
        have hln := HLEN.out
        have hl2 : lk2 = lk0 + 1 := by have := (term_kids hkp).1; rw [← this, putF_len, hln]
        subst hl2
        obtain ⟨_, hlc2, hckp, _⟩ := kid_at hkp
        have hkidp := fun W (hW : Lat W5 W) => (kid_at (hW.tm hkp)).2.2.2
        have hrightp := fun W (hW : Lat W5 W) => right_any (pow0 (.mk op nm dd ks) n1) _ (.agg #[.int .i64 o2, .int .i64 m2, .slice A2 la2 ca2, .slice K2 (lk0 + 1) ck2]) W ⟨_, _, _, _, rfl, hW.tm HK5.out⟩
        rw [hrp] at hrightp
        have hps := HPSZ.out
        have hsizep := fun W (hW : Lat W5 W) => size_any _ (pow0 (.mk op nm dd ks) n1) (Nat.le_refl _) (by omega) (.agg #[.int .i64 o2, .int .i64 m2, .slice A2 la2 ca2, .slice K2 (lk0 + 1) ck2]) W ⟨_, _, _, _, rfl, hW.tm HK5.out⟩
        rw [hps] at hsizep
        have hs0 := HS0.out (by omega)
        have hs1 := HS1.out (by omega)
        have hle := atF_le ks n1 ks.length
        have hlo := fun i (h : i < atF ks n1 ks.length) => put_lo (l := ks) (x := n1) h
        have hat := put_at ks n1
        have hhi := fun i (h : atF ks n1 ks.length ≤ i) => put_hi (l := ks) (x := n1) h
        have hne := fun k (h : ks[atF ks n1 ks.length]? = some k) => put_ne hsort h
        obtain ⟨a, ha⟩ : ∃ y, atF ks n1 ks.length = y := ⟨_, rfl⟩
        rw [ha] at hle hlo hat hhi hne
        rw [hln] at hle
        have hsum : ((Z0 + Z1 : Nat) : Int) = (Z0 : Int) + (Z1 : Int) := by omega
        have HKP := Lib.hid hkidp
        have HRP := Lib.hid hrightp
        have HSP := Lib.hid hsizep
        have HS0' := Lib.hid hs0
        have HS1' := Lib.hid hs1
        have HLO := Lib.hid hlo
        have HAT := Lib.hid hat
        have HHI := Lib.hid hhi
        have HNE := Lib.hid hne
        clear hkidp hrightp hsizep hs0 hs1 hlo hat hhi hne ha hkp hsort hln hr0 hr1 hop hrp HSX HS0 HS1 HPSZ hps
        have hcell := fun (d : Nat) (os : Array Obj) => HBX2.out (Sort.grow (redrawn W5 d) os) ((Lat.refl W5).re d os)
        have g0 := fun d os => (hcell d os).1
        have g1 := fun d os => (hcell d os).2.1
        have g2 := fun d os => (hcell d os).2.2.1
        have g3 := fun d os => (hcell d os).2.2.2.1
        have g4 := fun d os => (hcell d os).2.2.2.2.1
        have g5 := fun d os => (hcell d os).2.2.2.2.2.1
        have g6 := fun d os => (hcell d os).2.2.2.2.2.2.1
        have g7 := fun d os => (hcell d os).2.2.2.2.2.2.2.1
        have g8 := fun d os => (hcell d os).2.2.2.2.2.2.2.2.1
        have g9 := fun d os => (hcell d os).2.2.2.2.2.2.2.2.2.1
        have g10 := fun d os => (hcell d os).2.2.2.2.2.2.2.2.2.2.1
        have g11 := fun d os => (hcell d os).2.2.2.2.2.2.2.2.2.2.2.1
        clear hcell
        have hw1 : IntKind.i64.wrap ((lk0 : Int) + 1) = (lk0 : Int) + 1 := IntWalk.i64_in _ (by omega)
        have hw2 : IntKind.i64.wrap ((Z0 : Int) + (Z1 : Int)) = (Z0 : Int) + (Z1 : Int) := IntWalk.i64_in _ (by omega)
        have hnn : (((lk0 + 1 : Nat) : Int) != (lk0 : Int) + 1) = false := by simp
        have hn2 : (((Z0 + Z1 : Nat) : Int) != (Z0 : Int) + (Z1 : Int)) = false := by simp
        go_wp2_with fail
        refine wp_region_quiet_below (by kernel_rfl) (by kernel_rfl) ?_
        repeat (go_big_quiet_step ((first | (go_at_call 12; refine Calls.regrown_of (HRP.out _ ((Lat.refl _).re _ _))) | (go_at_call_of 14 o2; refine Calls.regrown_of (HSP.out _ ((Lat.refl _).re _ _))) | (go_at_call_of 14 o0; refine Calls.regrown_of (HS0'.out _ (HL5.out.re _ _))) | (go_at_call_of 14 o1; refine Calls.regrown_of (HS1'.out _ (HL5.out.re _ _))))))
        refine wpQuiet_nil ?_
        intro _ hw'
        obtain ⟨⟨nq, osq⟩, hw''⟩ := hw'
        subst hw''
        obtain ⟨W6, hW6⟩ : ∃ y, Sort.grow (redrawn W5 nq) osq = y := ⟨_, rfl⟩
        have hL6 : Lat W5 W6 := by rw [← hW6]; exact (Lat.refl W5).re nq osq
        rw [hW6]
        have HL6 := Lib.hid hL6
        clear hW6 hL6 g0 g1 g2 g3 g4 g5 g6 g7 g8 g9 g10 g11 HRP HSP HS0' HS1' hw1 hw2 hnn hn2 hsum k0 k1 k2 k3 k4 k5 k6 k7 p0 p1 p2 p3
        go_wp2_with fail
        go_loopg [8, 9, 10] (lk0 + 2) (fun gk s8 s9 s10 wx => ∃ (i j mo : Nat), s8 = .int .i64 j ∧ s9 = .int .i64 mo ∧ s10 = .int .i64 i ∧ i ≤ lk0 + 1 ∧ lk0 + 1 - i < gk ∧ Hid ((i ≤ a ∧ j = i ∧ mo = 0) ∨ (a < i ∧ i = j + 1 ∧ mo = 1)) ∧ Hid (Lat W5 wx))
        case atStart => exact ⟨0, 0, 0, rfl, rfl, rfl, by omega, by omega, Lib.hid (.inl ⟨by omega, rfl, rfl⟩), HL6⟩
        case round =>
          obtain ⟨i, j, mo, rfl, rfl, rfl, hi, hgk, HJ, HW⟩ := hrel
          obtain ⟨k0, k1, k2, k3, k4, k5, k6, k7, p0, p1, p2, p3, _, _⟩ := HBX2.out wr HW.out
          by_cases hlt : i < lk0 + 1
          · have hltz : (i : Int) < ((lk0 + 1 : Nat) : Int) := by omega
            have hlty : (i : Int) < (lk0 : Int) + 1 := by omega
            obtain ⟨gk', rfl⟩ : ∃ g', gk = g' + 1 := ⟨gk - 1, by omega⟩
            obtain ⟨k, g, off, d0, d1, d2, d3, hki, rfl, e0, e1, e2, e3, hd⟩ := HKP.out wr HW.out i hlt
            by_cases hia : i = a
            · subst hia
              have hkn : k = n1 := by rw [HAT.out] at hki; exact (Option.some.inj hki).symm
              subst hkn
              have hJ := HJ.out
              obtain rfl : j = i := by omega
              obtain rfl : mo = 0 := by omega
              have h16 := fun (W : World) (h : Lat wr W) => order_any k k _ _ (.agg #[d0, d1, d2, d3]) (.agg #[.int .i64 o1, .int .i64 m1, .slice A1 la1 ca1, .slice K1 lk1 ck1]) W ⟨_, _, _, _, rfl, h.tm hd⟩ ⟨_, _, _, _, rfl, ((HL5.out.then_ HW.out).then_ h).tm HK1.out⟩
              rw [ordT_refl] at h16
              have H16 := Lib.hid h16
              clear h16 hJ
              have hE := fun (W : World) (h : Lat wr W) => (⟨box_kid h e0, box_kid h e1, box_kid h e2, box_kid h e3⟩ : W.cell? ⟨g, off + j * 4, none⟩ = some d0 ∧ W.cell? ⟨g, off + j * 4 + 1, none⟩ = some d1 ∧ W.cell? ⟨g, off + j * 4 + 2, none⟩ = some d2 ∧ W.cell? ⟨g, off + j * 4 + 3, none⟩ = some d3)
              have HE := Lib.hid hE
              clear hE
              by_cases hj : j < lk0
              · have hjz : (j : Int) < (lk0 : Int) := by omega
                obtain ⟨k', g', off', f0', f1', f2', f3', hkj, rfl, f0, f1, f2, f3, hf⟩ := HKID.out wr (HL5.out.then_ HW.out) j hj
                have h14 := fun (W : World) (h : Lat wr W) => order_any k k' _ _ (.agg #[d0, d1, d2, d3]) (.agg #[f0', f1', f2', f3']) W ⟨_, _, _, _, rfl, h.tm hd⟩ ⟨_, _, _, _, rfl, h.tm hf⟩
                have hne := HNE.out k' hkj
                obtain ⟨r, hr⟩ : ∃ y, ordT k k' = y := ⟨_, rfl⟩
                rw [hr] at h14 hne
                have hrb : (r == 0) = false := by simpa using hne
                have H14 := Lib.hid h14
                clear h14 hne hr hki hkj hd hf k0 k1 k2 k4 k5 k6 k7 p0 p1 p2
                have hcell := fun (d : Nat) (os : Array Obj) => HBX2.out (Sort.grow (redrawn wr d) os) (HW.out.re d os)
                have g0 := fun d os => (hcell d os).1
                have g1 := fun d os => (hcell d os).2.1
                have g2 := fun d os => (hcell d os).2.2.1
                have g3 := fun d os => (hcell d os).2.2.2.1
                have g4 := fun d os => (hcell d os).2.2.2.2.1
                have g5 := fun d os => (hcell d os).2.2.2.2.2.1
                have g6 := fun d os => (hcell d os).2.2.2.2.2.2.1
                have g7 := fun d os => (hcell d os).2.2.2.2.2.2.2.1
                have g8 := fun d os => (hcell d os).2.2.2.2.2.2.2.2.1
                have g9 := fun d os => (hcell d os).2.2.2.2.2.2.2.2.2.1
                have g10 := fun d os => (hcell d os).2.2.2.2.2.2.2.2.2.2.1
                have g11 := fun d os => (hcell d os).2.2.2.2.2.2.2.2.2.2.2.1
                clear hcell
                have x0 := fun d os => box_kid ((Lat.refl wr).re d os) e0
                have x1 := fun d os => box_kid ((Lat.refl wr).re d os) e1
                have x2 := fun d os => box_kid ((Lat.refl wr).re d os) e2
                have x3 := fun d os => box_kid ((Lat.refl wr).re d os) e3
                clear e0 e1 e2 e3
                have y0' := fun d os => box_kid ((Lat.refl wr).re d os) f0
                have y1' := fun d os => box_kid ((Lat.refl wr).re d os) f1
                have y2' := fun d os => box_kid ((Lat.refl wr).re d os) f2
                have y3' := fun d os => box_kid ((Lat.refl wr).re d os) f3
                clear f0 f1 f2 f3
                go_wp2_with fail
                refine wp_region_quiet_below (by kernel_rfl) (by kernel_rfl) ?_
                repeat (go_big_quiet_step ((first | (go_at_call 17; refine Calls.regrown_of (H14.out _ ((Lat.refl _).re _ _))))))
                refine wpQuiet_nil ?_
                intro _ hw'
                obtain ⟨⟨nq, osq⟩, hw''⟩ := hw'
                subst hw''
                clear y0' y1' y2' y3'
                clear g0 g1 g2 g3 g4 g5 g6 g7 g8 g9 g10 g11 x0 x1 x2 x3
                clear k3 p3
                obtain ⟨W7, hW7⟩ : ∃ y, Sort.grow (redrawn wr nq) osq = y := ⟨_, rfl⟩
                have hL7 : Lat wr W7 := by rw [← hW7]; exact (Lat.refl wr).re nq osq
                rw [hW7]
                have HL7 := Lib.hid hL7
                obtain ⟨e0, e1, e2, e3⟩ := HE.out W7 hL7
                obtain ⟨k0, k1, k2, k3, k4, k5, k6, k7, p0, p1, p2, p3, _, _⟩ := HBX2.out W7 (HW.out.then_ hL7)
                have hcell := fun (d : Nat) (os : Array Obj) => HBX2.out (Sort.grow (redrawn W7 d) os) ((HW.out.then_ hL7).re d os)
                have g0 := fun d os => (hcell d os).1
                have g1 := fun d os => (hcell d os).2.1
                have g2 := fun d os => (hcell d os).2.2.1
                have g3 := fun d os => (hcell d os).2.2.2.1
                have g4 := fun d os => (hcell d os).2.2.2.2.1
                have g5 := fun d os => (hcell d os).2.2.2.2.2.1
                have g6 := fun d os => (hcell d os).2.2.2.2.2.2.1
                have g7 := fun d os => (hcell d os).2.2.2.2.2.2.2.1
                have g8 := fun d os => (hcell d os).2.2.2.2.2.2.2.2.1
                have g9 := fun d os => (hcell d os).2.2.2.2.2.2.2.2.2.1
                have g10 := fun d os => (hcell d os).2.2.2.2.2.2.2.2.2.2.1
                have g11 := fun d os => (hcell d os).2.2.2.2.2.2.2.2.2.2.2.1
                have x0 := fun d os => box_kid ((Lat.refl W7).re d os) e0
                have x1 := fun d os => box_kid ((Lat.refl W7).re d os) e1
                have x2 := fun d os => box_kid ((Lat.refl W7).re d os) e2
                have x3 := fun d os => box_kid ((Lat.refl W7).re d os) e3
                clear hcell hW7 hL7 e0 e1 e2 e3
                go_wp2_with fail
                refine wp_region_quiet_below (by kernel_rfl) (by kernel_rfl) ?_
                repeat (go_big_quiet_step ((first | (go_at_call 17; refine Calls.regrown_of (H16.out _ (HL7.out.re _ _))))))
                refine wpQuiet_nil ?_
                intro _ hw'
                obtain ⟨⟨nr, osr⟩, hw''⟩ := hw'
                subst hw''
                clear g0 g1 g2 g3 g4 g5 g6 g7 g8 g9 g10 g11 x0 x1 x2 x3
                have hL8 : Lat W5 (Sort.grow (redrawn W7 nr) osr) := (HW.out.then_ HL7.out).re nr osr
                obtain ⟨W8, hW8⟩ : ∃ y, Sort.grow (redrawn W7 nr) osr = y := ⟨_, rfl⟩
                rw [hW8] at hL8 ⊢
                have HL8 := Lib.hid hL8
                clear hW8 hL8 H16 HE k0 k1 k2 k3 k4 k5 k6 k7 p0 p1 p2 p3
                go_wp2
                go_roundg gk'
                case measure => omega
                case rel => exact ⟨j + 1, j, 1, rfl, by go_num, by go_num, by omega, by omega, Lib.hid (.inr ⟨by omega, rfl, rfl⟩), HL8⟩
              · have hjz : ¬ (j : Int) < (lk0 : Int) := by omega
                have hjd : decide ((j : Int) < (lk0 : Int)) = false := by simpa using hjz
                clear hki hd k0 k1 k2 k4 k5 k6 k7 p0 p1 p2
                have hcell := fun (d : Nat) (os : Array Obj) => HBX2.out (Sort.grow (redrawn wr d) os) (HW.out.re d os)
                have g0 := fun d os => (hcell d os).1
                have g1 := fun d os => (hcell d os).2.1
                have g2 := fun d os => (hcell d os).2.2.1
                have g3 := fun d os => (hcell d os).2.2.2.1
                have g4 := fun d os => (hcell d os).2.2.2.2.1
                have g5 := fun d os => (hcell d os).2.2.2.2.2.1
                have g6 := fun d os => (hcell d os).2.2.2.2.2.2.1
                have g7 := fun d os => (hcell d os).2.2.2.2.2.2.2.1
                have g8 := fun d os => (hcell d os).2.2.2.2.2.2.2.2.1
                have g9 := fun d os => (hcell d os).2.2.2.2.2.2.2.2.2.1
                have g10 := fun d os => (hcell d os).2.2.2.2.2.2.2.2.2.2.1
                have g11 := fun d os => (hcell d os).2.2.2.2.2.2.2.2.2.2.2.1
                clear hcell
                have x0 := fun d os => box_kid ((Lat.refl wr).re d os) e0
                have x1 := fun d os => box_kid ((Lat.refl wr).re d os) e1
                have x2 := fun d os => box_kid ((Lat.refl wr).re d os) e2
                have x3 := fun d os => box_kid ((Lat.refl wr).re d os) e3
                clear e0 e1 e2 e3
                go_wp2_with fail
                refine wp_region_quiet_below (by kernel_rfl) (by kernel_rfl) ?_
                repeat (go_big_quiet_step ((first | (go_at_call 17; refine Calls.regrown_of (H16.out _ ((Lat.refl _).re _ _))))))
                refine wpQuiet_nil ?_
                intro _ hw'
                obtain ⟨⟨nq, osq⟩, hw''⟩ := hw'
                subst hw''
                clear g0 g1 g2 g3 g4 g5 g6 g7 g8 g9 g10 g11 x0 x1 x2 x3
                clear k3 p3
                obtain ⟨W7, hW7⟩ : ∃ y, Sort.grow (redrawn wr nq) osq = y := ⟨_, rfl⟩
                have hL7 : Lat wr W7 := by rw [← hW7]; exact (Lat.refl wr).re nq osq
                rw [hW7]
                have HL7 := Lib.hid hL7
                obtain ⟨e0, e1, e2, e3⟩ := HE.out W7 hL7
                obtain ⟨k0, k1, k2, k3, k4, k5, k6, k7, p0, p1, p2, p3, _, _⟩ := HBX2.out W7 (HW.out.then_ hL7)
                have hcell := fun (d : Nat) (os : Array Obj) => HBX2.out (Sort.grow (redrawn W7 d) os) ((HW.out.then_ hL7).re d os)
                have g0 := fun d os => (hcell d os).1
                have g1 := fun d os => (hcell d os).2.1
                have g2 := fun d os => (hcell d os).2.2.1
                have g3 := fun d os => (hcell d os).2.2.2.1
                have g4 := fun d os => (hcell d os).2.2.2.2.1
                have g5 := fun d os => (hcell d os).2.2.2.2.2.1
                have g6 := fun d os => (hcell d os).2.2.2.2.2.2.1
                have g7 := fun d os => (hcell d os).2.2.2.2.2.2.2.1
                have g8 := fun d os => (hcell d os).2.2.2.2.2.2.2.2.1
                have g9 := fun d os => (hcell d os).2.2.2.2.2.2.2.2.2.1
                have g10 := fun d os => (hcell d os).2.2.2.2.2.2.2.2.2.2.1
                have g11 := fun d os => (hcell d os).2.2.2.2.2.2.2.2.2.2.2.1
                have x0 := fun d os => box_kid ((Lat.refl W7).re d os) e0
                have x1 := fun d os => box_kid ((Lat.refl W7).re d os) e1
                have x2 := fun d os => box_kid ((Lat.refl W7).re d os) e2
                have x3 := fun d os => box_kid ((Lat.refl W7).re d os) e3
                clear hcell hW7 hL7 e0 e1 e2 e3
                go_wp2_with fail
                refine wp_region_quiet_below (by kernel_rfl) (by kernel_rfl) ?_
                repeat (go_big_quiet_step ((first | (go_at_call 17; refine Calls.regrown_of (H16.out _ (HL7.out.re _ _))))))
                refine wpQuiet_nil ?_
                intro _ hw'
                obtain ⟨⟨nr, osr⟩, hw''⟩ := hw'
                subst hw''
                clear g0 g1 g2 g3 g4 g5 g6 g7 g8 g9 g10 g11 x0 x1 x2 x3
                have hL8 : Lat W5 (Sort.grow (redrawn W7 nr) osr) := (HW.out.then_ HL7.out).re nr osr
                obtain ⟨W8, hW8⟩ : ∃ y, Sort.grow (redrawn W7 nr) osr = y := ⟨_, rfl⟩
                rw [hW8] at hL8 ⊢
                have HL8 := Lib.hid hL8
                clear hW8 hL8 H16 HE k0 k1 k2 k3 k4 k5 k6 k7 p0 p1 p2 p3
                go_wp2
                go_roundg gk'
                case measure => omega
                case rel => exact ⟨j + 1, j, 1, rfl, by go_num, by go_num, by omega, by omega, Lib.hid (.inr ⟨by omega, rfl, rfl⟩), HL8⟩
            · have hJ := HJ.out
              have hj : j < lk0 := by omega
              have hjz : (j : Int) < (lk0 : Int) := by omega
              obtain ⟨k', g', off', f0', f1', f2', f3', hkj, rfl, f0, f1, f2, f3, hf⟩ := HKID.out wr (HL5.out.then_ HW.out) j hj
              have hkk : k' = k := by
                rcases hJ with ⟨h1, rfl, _⟩ | ⟨h1, rfl, _⟩
                · have := HLO.out j (by omega); rw [hki, hkj] at this; exact (Option.some.inj this).symm
                · have := HHI.out j (by omega); rw [hki, hkj] at this; exact (Option.some.inj this).symm
              subst hkk
              have h14 := fun (W : World) (h : Lat wr W) => order_any k' k' _ _ (.agg #[d0, d1, d2, d3]) (.agg #[f0', f1', f2', f3']) W ⟨_, _, _, _, rfl, h.tm hd⟩ ⟨_, _, _, _, rfl, h.tm hf⟩
              rw [ordT_refl] at h14
              have H14 := Lib.hid h14
              have HJ' := Lib.hid hJ
              have HIA := Lib.hid hia
              clear h14 hki hkj hd hf hJ hia k0 k1 k2 k4 k5 k6 k7 p0 p1 p2
              have hcell := fun (d : Nat) (os : Array Obj) => HBX2.out (Sort.grow (redrawn wr d) os) (HW.out.re d os)
              have g0 := fun d os => (hcell d os).1
              have g1 := fun d os => (hcell d os).2.1
              have g2 := fun d os => (hcell d os).2.2.1
              have g3 := fun d os => (hcell d os).2.2.2.1
              have g4 := fun d os => (hcell d os).2.2.2.2.1
              have g5 := fun d os => (hcell d os).2.2.2.2.2.1
              have g6 := fun d os => (hcell d os).2.2.2.2.2.2.1
              have g7 := fun d os => (hcell d os).2.2.2.2.2.2.2.1
              have g8 := fun d os => (hcell d os).2.2.2.2.2.2.2.2.1
              have g9 := fun d os => (hcell d os).2.2.2.2.2.2.2.2.2.1
              have g10 := fun d os => (hcell d os).2.2.2.2.2.2.2.2.2.2.1
              have g11 := fun d os => (hcell d os).2.2.2.2.2.2.2.2.2.2.2.1
              clear hcell
              have x0 := fun d os => box_kid ((Lat.refl wr).re d os) e0
              have x1 := fun d os => box_kid ((Lat.refl wr).re d os) e1
              have x2 := fun d os => box_kid ((Lat.refl wr).re d os) e2
              have x3 := fun d os => box_kid ((Lat.refl wr).re d os) e3
              clear e0 e1 e2 e3
              have y0' := fun d os => box_kid ((Lat.refl wr).re d os) f0
              have y1' := fun d os => box_kid ((Lat.refl wr).re d os) f1
              have y2' := fun d os => box_kid ((Lat.refl wr).re d os) f2
              have y3' := fun d os => box_kid ((Lat.refl wr).re d os) f3
              clear f0 f1 f2 f3
              go_wp2_with fail
              refine wp_region_quiet_below (by kernel_rfl) (by kernel_rfl) ?_
              repeat (go_big_quiet_step ((first | (go_at_call 17; refine Calls.regrown_of (H14.out _ ((Lat.refl _).re _ _))))))
              refine wpQuiet_nil ?_
              intro _ hw'
              obtain ⟨⟨nq, osq⟩, hw''⟩ := hw'
              subst hw''
              clear y0' y1' y2' y3'
              clear g0 g1 g2 g3 g4 g5 g6 g7 g8 g9 g10 g11 x0 x1 x2 x3
              clear k3 p3
              obtain ⟨W7, hW7⟩ : ∃ y, Sort.grow (redrawn wr nq) osq = y := ⟨_, rfl⟩
              have hL7 : Lat W5 W7 := by rw [← hW7]; exact HW.out.re nq osq
              rw [hW7]
              have HL7 := Lib.hid hL7
              clear hW7 hL7
              clear H14 HJ
              go_wp2
              go_roundg gk'
              case measure => omega
              case rel =>
                have hJ := HJ'.out
                have hia := HIA.out
                exact ⟨i + 1, j + 1, mo, by go_num, rfl, by go_num, by omega, by omega, Lib.hid (by omega), HL7⟩
          · have hltz : ¬ (i : Int) < ((lk0 + 1 : Nat) : Int) := by omega
            have hlty : ¬ (i : Int) < (lk0 : Int) + 1 := by omega
            have hJ := HJ.out
            obtain rfl : j = lk0 := by omega
            obtain rfl : mo = 1 := by omega
            have hend := (HL5.out.then_ HW.out).below HB0.out
            clear hJ HJ
            go_wp2
            go_ret
            exact ⟨rfl, hend⟩

set_option maxRecDepth 100000 in
theorem lifted (os : Os) (started : os.Started) (H : Type) (enc : TypeId × Value → H) :
    ReturnsInHanded {} Try.checked os 9 .any (Rows.termsPowersSpec.pre6 enc Try.prog Try.f9 Rows.termsPowersRow.domain false) (Rows.termsPowersSpec.post enc Try.prog Try.f9 false true false false) := by
  refine returnsInHanded_of_change_sized (C := Try.checked) own started (by kernel_rfl) Try.func9
    (ChangeSpec.witness6 (enc := enc) (C := Try.checked) false ⟨#[], #[.agg #[.int .i64 0, .int .i64 0, .slice none 0 0, .slice none 0 0], .agg #[.int .i64 0, .int .i64 0, .slice none 0 0, .slice none 0 0]], []⟩ 8 (by kernel_rfl) (by kernel_rfl) (by kernel_rfl) (by kernel_rfl)) ?_
  intro W base args ds gs before hval0 hW hcnd hsz0 _
  have hval : ∀ (j : Nat) t v, Try.f9.params[j]? = some t → args[j]? = some v → Value.okWide Try.prog W .any base t v := hval0
  have hW' := hW
  obtain ⟨p, q, hA0, hV, rfl, hfz, hnd⟩ := hW
  have hA : DataW.TrodAll enc Try.prog W 0 (fun _ => true) true Try.f9.params.toList args.toList ds p := hA0
  have hsz : (DataW.weightsEach Try.prog (Try.f9.params.toList ++ Rows.termsPowersSpec.plain.varTypes Try.prog) (ds ++ gs)).all (· ≤ reachBytes) = true := hsz0
  rw [Try.params9] at hA hval hsz
  obtain ⟨v0, vs0, d0, ds0, p0, q0, hargs, rfl, rfl, h0, r_0⟩ := trodAll_cons hA
  obtain ⟨v1, vs1, d1, ds1, p1, q1, rfl, rfl, rfl, h1, r_1⟩ := trodAll_cons r_0
  obtain ⟨rfl, rfl, rfl⟩ := trodAll_nil r_1
  obtain rfl : args = #[v0, v1] := by cases args; simp_all
  obtain ⟨rfl, rfl⟩ := trodVars_none hV
  have k0 := h0
  have lt0 : ∀ x ∈ p0, x.block < W.heap.size := by obtain ⟨m, hm⟩ := k0; exact DataW.trod_lt m _ _ _ hm
  obtain ⟨n0, c0_0, c0_1, c0_2, c0_3, rfl, w0, z0⟩ := tmc.open_tm ({ U := _, f0 := _, f1 := _, f2 := _, f3 := _, hT := Try.underlying26, hone := by kernel_rfl, hC := by kernel_rfl, e0 := Try.underlying22, e1 := Try.underlying2, e2 := Try.underlying23, eU := Try.underlying5, cU := by kernel_rfl, bU := by kernel_rfl, e3 := Try.underlying24 }) (hval 0 26 v0 rfl rfl) h0
  have y0 := z0 (tmc.each_fit hsz (j := 0) rfl rfl)
  have k1 := h1
  have lt1 : ∀ x ∈ p1, x.block < W.heap.size := by obtain ⟨m, hm⟩ := k1; exact DataW.trod_lt m _ _ _ hm
  obtain ⟨n1, c1_0, c1_1, c1_2, c1_3, rfl, w1, z1⟩ := tmc.open_tm ({ U := _, f0 := _, f1 := _, f2 := _, f3 := _, hT := Try.underlying26, hone := by kernel_rfl, hC := by kernel_rfl, e0 := Try.underlying22, e1 := Try.underlying2, e2 := Try.underlying23, eU := Try.underlying5, cU := by kernel_rfl, bU := by kernel_rfl, e3 := Try.underlying24 }) (hval 1 26 v1 rfl rfl) h1
  have y1 := z1 (tmc.each_fit hsz (j := 1) rfl rfl)
  clear hA0 hval0
  refine (walk n0 c0_0 c0_1 c0_2 c0_3 n1 c1_0 c1_1 c1_2 c1_3 W w0 y0 w1 y1).mono fun e W' ⟨he, bel⟩ => ?_
  subst he
  exact ⟨_, rfl, _, _, _, [], _, [], hW', trodAll_mk1 (shut_bool Try.underlying4 _), (trodAll_cons_mk (Below.trod laidOut (by kernel_rfl) (of_decide_eq_true (by kernel_rfl)) k0 bel lt0) (trodAll_cons_mk (Below.trod laidOut (by kernel_rfl) (of_decide_eq_true (by kernel_rfl)) k1 bel lt1) trodAll_mk0)), rfl, bel.frame _, fun h => by cases h⟩

theorem over : Rows.termsPowersRow.holds Try.pinned (OpenSpec.ofChange Rows.termsPowersSpec) :=
  OpenClaim.holds_of_wide 9 Try.f9 rfl rfl rfl rfl rfl rfl rfl ⟨rfl, rfl, rfl, rfl, rfl⟩ rfl rfl rfl rfl rfl (by kernel_rfl) Try.func9 (by kernel_rfl)
    (of_decide_eq_true (by kernel_rfl)) (by unfold Func.isWrapper; first | (rw [if_pos (by decide +kernel)]; kernel_rfl) | (rw [if_neg (by decide +kernel)]; exact ⟨rfl, rfl⟩))
    (fun os started H enc _ => lifted os started H enc)

theorem proved : Rows.TermsPowersSaid := over
#print axioms proved
end Go.Proofs.Ytoaacacbjimloaa.termsPowers
