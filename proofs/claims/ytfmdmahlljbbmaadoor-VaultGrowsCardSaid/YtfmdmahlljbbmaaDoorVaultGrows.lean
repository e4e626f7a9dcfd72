/- The law VaultGrows of warderlaw06 answers true for every list of terms, and leaves its argument as it was; no condition. -/
import Derived.Test.YtfmdmahlljbbmaaDoorCards
import Derived.Test.YtfmdmahlljbbmaaDoorTie
import Derived.WalkKit
import Derived.ProofKit
import Derived.OpenShut
import Derived.ChangeOld
import Derived.Below
import Derived.SizedLaws
import Derived.Test.YtfmdmahlljbbmaaDoorTh
import Derived.Test.YtfmdmahlljbbmaaDoorVtTab
import Derived.Test.YtfmdmahlljbbmaaDoorVx
import Derived.Lib.QuietBelow
import Derived.BigQuiet
namespace Go.Proofs.YtfmdmahlljbbmaaDoor.vaultGrows
open Go.ChangeShapes Go.WideShapes Go.ChangeAt Go.RowKit
set_option linter.unusedVariables false

theorem own : ownKnob Tryd.prog.godebug = none := by kernel_rfl
theorem laidOut : laidOutB Tryd.prog = true := by kernel_rfl

open Go.Proofs.YtfmdmahlljbbmaaDoor.tlvc Go.Proofs.YtfmdmahlljbbmaaDoor.tmc Go.Proofs.YtfmdmahlljbbmaaDoor.vtc

set_option maxRecDepth 100000 in
set_option maxHeartbeats 32000000 in
theorem walk (a0 : Option Addr) (len0 cap0 : Nat) (x0 : List tmc.Tm) (w : World) (e0 : x0.length = len0) (w0 : tmc.Tms w a0 x0) (l0 : len0 ≤ cap0) (m0 : cap0 ≤ maxLen) (y0 : tmc.fitDs x0) (hT : txc.Tabs w) :
    Calls Tryd.prog 7 #[.slice a0 len0 cap0] w fun e w' => e = .returned (.bool true) ∧ Below w.heap.size w w' := by
  have HH := Lib.hid (head_any w hT)
  have HW0 := Lib.hid w0
  have HT := Lib.hid (show txc.Tab w.heap.size w from hT)
  have HE0 := Lib.hid e0
  have hm9 : cap0 ≤ 9223372036854775807 := by unfold maxLen at m0; omega
  clear hT w0 y0 e0 m0
  by_cases hl : len0 ≤ 100
  · have hlz : ¬ (100 : Int) < (len0 : Int) := by omega
    go_enter Tryd.func7, Tryd.ntmps7
    go_wp2_with (first | (go_at_call 12; refine HH.out.mono ?_; rintro e wa ⟨rfl, hba⟩; have HBA := Lib.hid hba; clear hba) | (go_at_call 13; refine (new_any wa).mono ?_; rintro e wv ⟨rfl, hV, hbv, hsv⟩; have HBV := Lib.hid (And.intro (hV.mono (S' := fun g => w.heap.size ≤ g) fun g hg => Nat.le_trans HBA.out.size hg) (blw HBA.out hbv)); clear hV hbv hsv))
    obtain ⟨vb, hvb⟩ : ∃ x, wa.heap.size + 1 = x := ⟨_, rfl⟩
    obtain ⟨mb, hmb⟩ : ∃ x, wa.heap.size = x := ⟨_, rfl⟩
    rw [hvb, hmb] at HBV
    rw [hvb]
    clear hvb hmb
    go_loopg [5, 6, 7, 8, 9, 10, 11, 12, 13] (len0 + 1) (fun gk s5 s6 s7 s8 s9 s10 s11 s12 s13 wx => ∃ (i : Nat) (ob : Option Nat) (L : List Tm), s5 = .int .i64 i ∧ i ≤ len0 ∧ len0 - i < gk ∧ Hid (Vlt (fun g => w.heap.size ≤ g) wx vb mb ob L ∧ Below w.heap.size w wx))
    case atStart => exact ⟨0, none, [], rfl, by omega, by omega, HBV⟩
    case round =>
      obtain ⟨i, ob, L, rfl, hi, hgk, HI⟩ := hrel
      by_cases hlt : i < len0
      · have hltz : (i : Int) < (len0 : Int) := by omega
        obtain ⟨gk', rfl⟩ : ∃ g', gk = g' + 1 := ⟨gk - 1, by omega⟩
        have HN := Lib.hid (And.intro (show i + 1 ≤ len0 from hlt) (show len0 - (i + 1) < gk' by omega))
        obtain ⟨t, ht⟩ : ∃ t, x0[i]? = some t := ⟨_, List.getElem?_eq_getElem (by rw [HE0.out]; exact hlt)⟩
        obtain ⟨g, off, to, tm, tA, tla, tca, tK, tlk, tck, rfl, hat⟩ := tms_at HW0.out ht
        have HAT := Lib.hid hat
        obtain ⟨e0, e1, e2, e3, hv⟩ := hat wr HI.out.2
        have hp := parts_of _ t (Nat.le_refl _) (.agg #[.int .i64 to, .int .i64 tm, .slice tA tla tca, .slice tK tlk tck]) 500 wr hv (by omega) (by omega)
        have hpt := partsF_true _ t (Nat.le_refl _) 500 (by omega)
        have hpb := partsF_bd _ t (Nat.le_refl _) 500 (by omega)
        obtain ⟨p, hpp⟩ : ∃ x, partsF t 500 = x := ⟨_, rfl⟩
        rw [hpp] at hp hpt hpb
        have HP := Lib.hid hp
        clear hp hpp hat hv ht hgk
        by_cases hbig : 500 < p
        · clear hpt
          go_wp2_with (go_at_call 14; refine HP.out.mono ?_; rintro e wp ⟨rfl, hbp⟩)
          go_ret
          exact ⟨rfl, blw HI.out.2 hbp⟩
        · have hsz : szT t ≤ 500 := by have := hpt (by omega); omega
          have hV := HI.out.1
          have hll := hV.len
          have hways := intern_ways t L hV.once hV.closed hV.right
          obtain ⟨l, hl2⟩ : ∃ x, L.length = x := ⟨_, rfl⟩
          rw [hl2] at hll
          have HLL := Lib.hid hl2
          have HSZ := Lib.hid hsz
          clear hpt hV hpb hl2 hsz
          rcases hways with ⟨j, hf, hj, hin⟩ | ⟨hf, ee, hee, hin⟩ | ⟨hf, h1, h2, hin, hin2, hf2⟩
          · have HR := Lib.hid (show internV t L = ((j : Int), 0, L) from hin)
            have HR2 := HR
            have HF : Hid (numI t L = (j : Int) ∧ (findV t L).isSome = true) := Lib.hid ⟨numI_some hf, by rw [hf]; rfl⟩
            have hjl : j < l := by rw [← HLL.out]; exact hj
            clear hf hj hin
            go_wp2_with fail
            refine HP.out.mono ?_
            rintro e wp ⟨rfl, hbp⟩
            have HV1 := Lib.hid (And.intro (HI.out.1.below hbp) (blw HI.out.2 hbp))
            clear hbp e0 e1 e2 e3 HP
            obtain ⟨A9, c9, x0⟩ := Vlt.box HV1.out.1
            rw [HLL.out] at x0
            obtain ⟨e0, e1, e2, e3, hv⟩ := HAT.out wp HV1.out.2
            have hfd := law_find (fun g => g < w.heap.size) t (.agg #[.int .i64 to, .int .i64 tm, .slice tA tla tca, .slice tK tlk tck]) HV1.out.1 HV1.out.2 hv HT.out (by have := HSZ.out; omega)
            rw [HF.out.1, HF.out.2] at hfd
            have HFD := Lib.hid hfd
            clear hfd hv
            go_wp2_with fail
            refine (len_cell vb _ _ _ _ x0).mono ?_
            rintro e wl ⟨rfl, rfl⟩
            go_wp2_with fail
            refine HFD.out.mono ?_
            rintro e wf ⟨rfl, hVf, hbf, _⟩
            have HVF := Lib.hid (And.intro hVf hbf)
            clear hVf hbf e0 e1 e2 e3 x0 HFD
            obtain ⟨e0, e1, e2, e3, hv⟩ := HAT.out wf HVF.out.2
            have hin := law_intern t (.agg #[.int .i64 to, .int .i64 tm, .slice tA tla tca, .slice tK tlk tck]) HVF.out.1 HVF.out.2 hv HT.out (by have := HSZ.out; omega)
            rw [HR.out] at hin
            have HIN := Lib.hid hin
            clear hin hv
            go_wp2_with fail
            refine HIN.out.mono ?_
            rintro e wi ⟨ob2, rfl, hVi, hbi⟩
            have HVI := Lib.hid (And.intro (show Vlt (fun g => w.heap.size ≤ g) wi vb mb ob2 L from hVi) hbi)
            clear hVi hbi e0 e1 e2 e3 HIN
            obtain ⟨A8, c8, x1⟩ := Vlt.box HVI.out.1
            rw [HLL.out] at x1
            obtain ⟨e0, e1, e2, e3, hv⟩ := HAT.out wi HVI.out.2
            have hsize := refSize_any _ t (Nat.le_refl _) (by have := HSZ.out; omega) (.agg #[.int .i64 to, .int .i64 tm, .slice tA tla tca, .slice tK tlk tck]) wi hv
            have HS := Lib.hid hsize
            clear hsize hv
            obtain ⟨z, hz⟩ : ∃ x, szT t = x := ⟨_, rfl⟩
            rw [hz] at HS
            have hz1 : 1 ≤ z := by rw [← hz]; exact szT_pos t
            have hz5 : z ≤ 500 := by rw [← hz]; exact HSZ.out
            clear hz
            have hwr : IntKind.i64.wrap ((l : Int) - (l : Int)) = 0 := by rw [IntWalk.i64_in _ (by omega)]; omega
            go_wp2_with fail
            refine (len_cell vb _ _ _ _ x1).mono ?_
            rintro e wj ⟨rfl, rfl⟩
            have hm1 : ¬ (z : Int) < 0 := by omega
            have hm3 : ((j : Int) == -1) = false := by rw [beq_eq_false_iff_ne]; omega
            go_wp2_with fail
            refine HS.out.mono ?_
            rintro e wz ⟨rfl, hbz⟩
            have HVZ := Lib.hid (And.intro (HVI.out.1.below hbz) (blw HVI.out.2 hbz))
            clear hbz e0 e1 e2 e3 x1 HS
            obtain ⟨A7, c7, x2⟩ := Vlt.box HVZ.out.1
            rw [HLL.out] at x2
            obtain ⟨e0, e1, e2, e3, hv⟩ := HAT.out wz HVZ.out.2
            have hin := law_intern t (.agg #[.int .i64 to, .int .i64 tm, .slice tA tla tca, .slice tK tlk tck]) HVZ.out.1 HVZ.out.2 hv HT.out (by have := HSZ.out; omega)
            rw [HR2.out] at hin
            have HIN := Lib.hid hin
            clear hin hv
            go_wp2_with fail
            refine HIN.out.mono ?_
            rintro e wk ⟨ob3, rfl, hVk, hbk⟩
            have HEND := Lib.hid (And.intro (show Vlt (fun g => w.heap.size ≤ g) wk vb mb ob3 L from hVk) hbk)
            clear hVk hbk e0 e1 e2 e3 x2 HIN
            go_wp2
            go_roundg gk'
            case measure => omega
            case rel => exact ⟨i + 1, ob3, L, by go_num, HN.out.1, HN.out.2, HEND⟩
          · rcases hee with rfl | rfl
            all_goals
              have HR := Lib.hid hin
              have HR2 := HR
              have HF : Hid (numI t L = -1 ∧ (findV t L).isSome = false) := Lib.hid ⟨numI_none hf, by rw [hf]; rfl⟩
              clear hf hin
              go_wp2_with fail
              refine HP.out.mono ?_
              rintro e wp ⟨rfl, hbp⟩
              have HV1 := Lib.hid (And.intro (HI.out.1.below hbp) (blw HI.out.2 hbp))
              clear hbp e0 e1 e2 e3 HP
              obtain ⟨A9, c9, x0⟩ := Vlt.box HV1.out.1
              rw [HLL.out] at x0
              obtain ⟨e0, e1, e2, e3, hv⟩ := HAT.out wp HV1.out.2
              have hfd := law_find (fun g => g < w.heap.size) t (.agg #[.int .i64 to, .int .i64 tm, .slice tA tla tca, .slice tK tlk tck]) HV1.out.1 HV1.out.2 hv HT.out (by have := HSZ.out; omega)
              rw [HF.out.1, HF.out.2] at hfd
              have HFD := Lib.hid hfd
              clear hfd hv
              go_wp2_with fail
              refine (len_cell vb _ _ _ _ x0).mono ?_
              rintro e wl ⟨rfl, rfl⟩
              go_wp2_with fail
              refine HFD.out.mono ?_
              rintro e wf ⟨rfl, hVf, hbf, _⟩
              have HVF := Lib.hid (And.intro hVf hbf)
              clear hVf hbf e0 e1 e2 e3 x0 HFD
              obtain ⟨e0, e1, e2, e3, hv⟩ := HAT.out wf HVF.out.2
              have hin := law_intern t (.agg #[.int .i64 to, .int .i64 tm, .slice tA tla tca, .slice tK tlk tck]) HVF.out.1 HVF.out.2 hv HT.out (by have := HSZ.out; omega)
              rw [HR.out] at hin
              have HIN := Lib.hid hin
              clear hin hv
              go_wp2_with fail
              refine HIN.out.mono ?_
              rintro e wi ⟨ob2, rfl, hVi, hbi⟩
              have HVI := Lib.hid (And.intro (show Vlt (fun g => w.heap.size ≤ g) wi vb mb ob2 L from hVi) hbi)
              clear hVi hbi e0 e1 e2 e3 HIN
              obtain ⟨A8, c8, x1⟩ := Vlt.box HVI.out.1
              rw [HLL.out] at x1
              obtain ⟨e0, e1, e2, e3, hv⟩ := HAT.out wi HVI.out.2
              have hsize := refSize_any _ t (Nat.le_refl _) (by have := HSZ.out; omega) (.agg #[.int .i64 to, .int .i64 tm, .slice tA tla tca, .slice tK tlk tck]) wi hv
              have HS := Lib.hid hsize
              clear hsize hv
              obtain ⟨z, hz⟩ : ∃ x, szT t = x := ⟨_, rfl⟩
              rw [hz] at HS
              have hz1 : 1 ≤ z := by rw [← hz]; exact szT_pos t
              have hz5 : z ≤ 500 := by rw [← hz]; exact HSZ.out
              clear hz
              have hwr : IntKind.i64.wrap ((l : Int) - (l : Int)) = 0 := by rw [IntWalk.i64_in _ (by omega)]; omega
              go_wp2_with fail
              refine (len_cell vb _ _ _ _ x1).mono ?_
              rintro e wj ⟨rfl, rfl⟩
              have hm1 : ¬ (z : Int) < 0 := by omega
              go_wp2_with fail
              refine HS.out.mono ?_
              rintro e wz ⟨rfl, hbz⟩
              have HVZ := Lib.hid (And.intro (HVI.out.1.below hbz) (blw HVI.out.2 hbz))
              clear hbz e0 e1 e2 e3 x1 HS
              obtain ⟨A7, c7, x2⟩ := Vlt.box HVZ.out.1
              rw [HLL.out] at x2
              obtain ⟨e0, e1, e2, e3, hv⟩ := HAT.out wz HVZ.out.2
              have hin := law_intern t (.agg #[.int .i64 to, .int .i64 tm, .slice tA tla tca, .slice tK tlk tck]) HVZ.out.1 HVZ.out.2 hv HT.out (by have := HSZ.out; omega)
              rw [HR2.out] at hin
              have HIN := Lib.hid hin
              clear hin hv
              go_wp2_with fail
              refine HIN.out.mono ?_
              rintro e wk ⟨ob3, rfl, hVk, hbk⟩
              have HEND := Lib.hid (And.intro (show Vlt (fun g => w.heap.size ≤ g) wk vb mb ob3 L from hVk) hbk)
              clear hVk hbk e0 e1 e2 e3 x2 HIN
              go_wp2
              go_roundg gk'
              case measure => omega
              case rel => exact ⟨i + 1, ob3, L, by go_num, HN.out.1, HN.out.2, HEND⟩
          · obtain ⟨LL, hLL⟩ : ∃ x, putV t L = x := ⟨_, rfl⟩
            rw [hLL] at h1 h2 hin hin2
            obtain ⟨l2, hl3⟩ : ∃ x, LL.length = x := ⟨_, rfl⟩
            have HL2 := Lib.hid hl3
            rw [hl3] at h1 h2 hin hin2
            rw [HLL.out] at h1 h2
            have HR := Lib.hid hin
            have HR2 := Lib.hid hin2
            have HF : Hid (numI t L = -1 ∧ (findV t L).isSome = false) := Lib.hid ⟨numI_none hf, by rw [hf]; rfl⟩
            clear hf hin hin2 hf2 hLL hl3
            go_wp2_with fail
            refine HP.out.mono ?_
            rintro e wp ⟨rfl, hbp⟩
            have HV1 := Lib.hid (And.intro (HI.out.1.below hbp) (blw HI.out.2 hbp))
            clear hbp e0 e1 e2 e3 HP
            obtain ⟨A9, c9, x0⟩ := Vlt.box HV1.out.1
            rw [HLL.out] at x0
            obtain ⟨e0, e1, e2, e3, hv⟩ := HAT.out wp HV1.out.2
            have hfd := law_find (fun g => g < w.heap.size) t (.agg #[.int .i64 to, .int .i64 tm, .slice tA tla tca, .slice tK tlk tck]) HV1.out.1 HV1.out.2 hv HT.out (by have := HSZ.out; omega)
            rw [HF.out.1, HF.out.2] at hfd
            have HFD := Lib.hid hfd
            clear hfd hv
            go_wp2_with fail
            refine (len_cell vb _ _ _ _ x0).mono ?_
            rintro e wl ⟨rfl, rfl⟩
            go_wp2_with fail
            refine HFD.out.mono ?_
            rintro e wf ⟨rfl, hVf, hbf, _⟩
            have HVF := Lib.hid (And.intro hVf hbf)
            clear hVf hbf e0 e1 e2 e3 x0 HFD
            obtain ⟨e0, e1, e2, e3, hv⟩ := HAT.out wf HVF.out.2
            have hin := law_intern t (.agg #[.int .i64 to, .int .i64 tm, .slice tA tla tca, .slice tK tlk tck]) HVF.out.1 HVF.out.2 hv HT.out (by have := HSZ.out; omega)
            rw [HR.out] at hin
            have HIN := Lib.hid hin
            clear hin hv
            go_wp2_with fail
            refine HIN.out.mono ?_
            rintro e wi ⟨ob2, rfl, hVi, hbi⟩
            have HVI := Lib.hid (And.intro (show Vlt (fun g => w.heap.size ≤ g) wi vb mb ob2 LL from hVi) hbi)
            clear hVi hbi e0 e1 e2 e3 HIN
            obtain ⟨A8, c8, x1⟩ := Vlt.box HVI.out.1
            rw [HL2.out] at x1
            obtain ⟨e0, e1, e2, e3, hv⟩ := HAT.out wi HVI.out.2
            have hsize := refSize_any _ t (Nat.le_refl _) (by have := HSZ.out; omega) (.agg #[.int .i64 to, .int .i64 tm, .slice tA tla tca, .slice tK tlk tck]) wi hv
            have HS := Lib.hid hsize
            clear hsize hv
            obtain ⟨z, hz⟩ : ∃ x, szT t = x := ⟨_, rfl⟩
            rw [hz] at HS h2
            have hz1 : 1 ≤ z := by rw [← hz]; exact szT_pos t
            have hz5 : z ≤ 500 := by rw [← hz]; exact HSZ.out
            clear hz
            have hl24 := HVI.out.1.len
            rw [HL2.out] at hl24
            have hwr : IntKind.i64.wrap ((l2 : Int) - (l : Int)) = (l2 : Int) - (l : Int) := by rw [IntWalk.i64_in _ (by omega)]
            go_wp2_with fail
            refine (len_cell vb _ _ _ _ x1).mono ?_
            rintro e wj ⟨rfl, rfl⟩
            have hm0 : ¬ (l2 : Int) - (l : Int) < 0 := by omega
            have hm1 : ¬ (z : Int) < (l2 : Int) - (l : Int) := by omega
            have hm2 : ¬ (l2 : Int) - (l : Int) < 1 := by omega
            have hm3 : ((l2 : Int) - 1 == -1) = false := by rw [beq_eq_false_iff_ne]; omega
            have hwr2 : IntKind.i64.wrap ((l2 : Int) - 1) = (l2 : Int) - 1 := IntWalk.i64_in _ (by omega)
            go_wp2_with fail
            refine HS.out.mono ?_
            rintro e wz ⟨rfl, hbz⟩
            have HVZ := Lib.hid (And.intro (HVI.out.1.below hbz) (blw HVI.out.2 hbz))
            clear hbz e0 e1 e2 e3 x1 HS
            obtain ⟨A7, c7, x2⟩ := Vlt.box HVZ.out.1
            rw [HL2.out] at x2
            obtain ⟨e0, e1, e2, e3, hv⟩ := HAT.out wz HVZ.out.2
            have hin := law_intern t (.agg #[.int .i64 to, .int .i64 tm, .slice tA tla tca, .slice tK tlk tck]) HVZ.out.1 HVZ.out.2 hv HT.out (by have := HSZ.out; omega)
            rw [HR2.out] at hin
            have HIN := Lib.hid hin
            clear hin hv
            go_wp2_with fail
            refine (len_cell vb _ _ _ _ x2).mono ?_
            rintro e wy ⟨rfl, rfl⟩
            go_wp2_with fail
            refine HIN.out.mono ?_
            rintro e wk ⟨ob3, rfl, hVk, hbk⟩
            have HEND := Lib.hid (And.intro (show Vlt (fun g => w.heap.size ≤ g) wk vb mb ob3 LL from hVk) hbk)
            clear hVk hbk e0 e1 e2 e3 x2 HIN
            go_wp2
            go_roundg gk'
            case measure => omega
            case rel => exact ⟨i + 1, ob3, LL, by go_num, HN.out.1, HN.out.2, HEND⟩
      · have hltz : ¬ (i : Int) < (len0 : Int) := by omega
        have HEND := Lib.hid HI.out.2
        clear HI hgk
        go_wp2
        go_ret
        exact ⟨rfl, HEND.out⟩
  · have hlz : (100 : Int) < (len0 : Int) := by omega
    go_enter Tryd.func7, Tryd.ntmps7
    go_wp2_with (first | (go_at_call 12; refine HH.out.mono ?_; rintro e wa ⟨rfl, hba⟩; have HBA := Lib.hid hba; clear hba) | (go_at_call 13; refine (new_any wa).mono ?_; rintro e wv ⟨rfl, hV, hbv, hsv⟩; have HBV := Lib.hid (blw HBA.out hbv); clear hV hbv hsv))
    go_ret
    exact ⟨rfl, HBV.out⟩

theorem reads (os : Os) {H : Type} (enc : TypeId × Value → H) : ∃ places, DataW.whole enc Tryd.prog ((txc.laidWorld os).forCall (fun _ _ => 0) ⟨#[], #[.slice none 0 0], []⟩).memory Tryd.f7.params.toList Rows.vaultGrowsSpec.vars false (#[.slice none 0 0] : Array Value).toList 8 = some ([.nil], [], places) :=
  ⟨[], by kernel_rfl⟩
set_option maxRecDepth 100000 in
theorem lifted (os : Os) (started : os.Started) (H : Type) (enc : TypeId × Value → H) (F : Stop.Interp) :
    ReturnsInHanded {} Tryd.checked os 7 .any ((OpenSpec.ofChange Rows.vaultGrowsSpec).preRow enc Tryd.prog Tryd.f7 Rows.vaultGrowsRow.domain false Rows.vaultGrowsRow.laid) (((OpenSpec.ofChange Rows.vaultGrowsSpec).at F).post enc Tryd.prog Tryd.f7 false true false false) := by
  obtain ⟨places, hx⟩ := reads os enc
  refine returnsInHanded_of_row (C := Tryd.checked) (s := (OpenSpec.ofChange Rows.vaultGrowsSpec)) own started (by kernel_rfl) Tryd.func7
    (witness_row_at (enc := enc) (C := Tryd.checked) false (txc.laidWorld os) #[.slice none 0 0] rfl (by kernel_rfl) (by kernel_rfl) (by kernel_rfl)
      (OpenSpec.preRow_of_cond 8 hx (by kernel_rfl) (fun k hk => by cases hk) (by kernel_rfl) (txc.laid_met os _))) ?_
  intro W base args ds gs before hval0 hW hcnd hcond hsz0 hL _ _
  have hval : ∀ (j : Nat) t v, Tryd.f7.params[j]? = some t → args[j]? = some v → Value.okWide Tryd.prog W .any base t v := hval0
  have hW' := hW
  obtain ⟨p, q, hA0, hV, rfl, hfz, hnd⟩ := hW
  have hA : DataW.TrodAll enc Tryd.prog W 0 (fun _ => true) true Tryd.f7.params.toList args.toList ds p := hA0
  have hsz : (DataW.weightsEach Tryd.prog (Tryd.f7.params.toList ++ (OpenSpec.ofChange Rows.vaultGrowsSpec).bare.plain.varTypes Tryd.prog) (ds ++ gs)).all (· ≤ reachBytes) = true := hsz0
  rw [Tryd.params7] at hA hval hsz
  obtain ⟨v0, vs0, d0, ds0, p0, q0, hargs, rfl, rfl, h0, r_0⟩ := trodAll_cons hA
  obtain ⟨rfl, rfl, rfl⟩ := trodAll_nil r_0
  obtain rfl : args = #[v0] := by cases args; simp_all
  obtain ⟨rfl, rfl⟩ := trodVars_none hV
  obtain ⟨a0, len0, cap0, rfl⟩ := okWide_slice Tryd.underlying22 (hval 0 22 v0 rfl rfl)
  have k0 := h0
  have lt0 : ∀ x ∈ p0, x.block < W.heap.size := by obtain ⟨m, hm⟩ := k0; exact DataW.trod_lt m _ _ _ hm
  obtain ⟨x0, e0, w0, l0, m0, z0⟩ := tmc.open_tms ({ U := _, f0 := _, f1 := _, f2 := _, f3 := _, hT := Tryd.underlying26, hone := by kernel_rfl, hC := by kernel_rfl, e0 := Tryd.underlying23, e1 := Tryd.underlying2, e2 := Tryd.underlying24, eU := Tryd.underlying5, cU := by kernel_rfl, bU := by kernel_rfl, e3 := Tryd.underlying22 }) Tryd.underlying22 h0
  have y0 := z0 (tmc.each_fit hsz (j := 0) rfl rfl)
  clear hA0 hval0
  have hT : txc.Tabs W := txc.tabs_of hL
  refine (walk a0 len0 cap0 x0 W e0 w0 l0 m0 y0 hT).mono fun e W' ⟨he, bel⟩ => ?_
  subst he
  exact ⟨_, rfl, _, _, _, [], _, [], hW', trodAll_mk1 (shut_bool Tryd.underlying4 _), (trodAll_cons_mk (Below.trod laidOut (by kernel_rfl) (of_decide_eq_true (by kernel_rfl)) k0 bel lt0) trodAll_mk0), rfl, bel.frame _, fun h => by cases h⟩

theorem over : Rows.vaultGrowsRow.holds Tryd.pinned (OpenSpec.ofChange Rows.vaultGrowsSpec) :=
  OpenClaim.holds_of_cond 7 Tryd.f7 rfl rfl rfl rfl rfl rfl rfl ⟨rfl, rfl, rfl, rfl, rfl⟩ rfl rfl rfl rfl rfl (by kernel_rfl) Tryd.func7 (by kernel_rfl)
    (of_decide_eq_true (by kernel_rfl)) (by unfold Func.isWrapper; first | (rw [if_pos (by decide +kernel)]; kernel_rfl) | (rw [if_neg (by decide +kernel)]; exact ⟨rfl, rfl⟩))
    (fun os started H enc _ F => by rw [OpenClaim.pre_eq_preRow]; exact lifted os started H enc F)

theorem plain (f : FuncId) (fn : Func) (hf : Tryd.pinned.checked.prog.funcNamed "warder/warderlaw06.VaultGrows" = some f) (hfn : Tryd.pinned.checked.prog.funcs[f]? = some fn) :
    false = Tryd.pinned.checked.prog.looks [] ∧ ∀ (j : Nat) t, fn.params[j]? = some t → Tryd.pinned.checked.prog.wantsStandIn t = false := by
  obtain rfl : f = 7 := Option.some.inj ((show Tryd.prog.funcNamed "warder/warderlaw06.VaultGrows" = some 7 by kernel_rfl).symm.trans hf) |>.symm
  obtain rfl : fn = Tryd.f7 := (Option.some.inj (Tryd.func7.symm.trans hfn)).symm
  refine ⟨by kernel_rfl, fun j t ht => ?_⟩
  rw [Tryd.params7] at ht
  match j, ht with
    | 0, ht => obtain rfl : t = 22 := (Option.some.inj ht).symm; exact (show Tryd.prog.wantsStandIn 22 = false by kernel_rfl)
    | j + 1, ht => simp at ht

theorem proved : Rows.VaultGrowsCardSaid :=
  Claim7.holds_tied_plain_at .later [] _ _ _ _ over (fun _ h => by cases h) (by kernel_rfl) (fun _ h => by cases h) vaultGrows_row_tie rfl ⟨rfl, rfl⟩ (by kernel_rfl) rfl plain (by kernel_rfl)
#print axioms proved
end Go.Proofs.YtfmdmahlljbbmaaDoor.vaultGrows
