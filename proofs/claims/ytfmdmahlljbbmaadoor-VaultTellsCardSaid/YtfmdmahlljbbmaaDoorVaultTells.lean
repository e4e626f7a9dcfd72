/- The law VaultTells of warderlaw06 answers true for every list of terms, term and number, and leaves its arguments as they were; no condition. -/
import Derived.Test.YtfmdmahlljbbmaaDoorCards
import Derived.Test.YtfmdmahlljbbmaaDoorTie
import Derived.WalkKit
import Derived.ProofKit
import Derived.OpenShut
import Derived.ChangeOld
import Derived.Below
import Derived.SizedLaws
import Derived.Test.YtfmdmahlljbbmaaDoorTh
import Derived.Test.YtfmdmahlljbbmaaDoorVtTab
import Derived.Test.YtfmdmahlljbbmaaDoorVta
import Derived.Lib.QuietBelow
import Derived.BigQuiet
namespace Go.Proofs.YtfmdmahlljbbmaaDoor.vaultTells
open Go.ChangeShapes Go.WideShapes Go.ChangeAt Go.RowKit
set_option linter.unusedVariables false

theorem own : ownKnob Tryd.prog.godebug = none := by kernel_rfl
theorem laidOut : laidOutB Tryd.prog = true := by kernel_rfl

open Go.Proofs.YtfmdmahlljbbmaaDoor.tlvc Go.Proofs.YtfmdmahlljbbmaaDoor.tmc Go.Proofs.YtfmdmahlljbbmaaDoor.vtc

set_option maxRecDepth 100000 in
set_option maxHeartbeats 64000000 in
theorem walk (a0 : Option Addr) (len0 cap0 : Nat) (x0 : List tmc.Tm) (n1 : tmc.Tm) (c1_0 c1_1 c1_2 c1_3 : Value) (a2 : Int) (w : World) (e0 : x0.length = len0) (w0 : tmc.Tms w a0 x0) (l0 : len0 ≤ cap0) (m0 : cap0 ≤ maxLen) (y0 : tmc.fitDs x0) (w1 : tmc.TmC (fun _ => True) w n1 c1_0 c1_1 c1_2 c1_3) (y1 : tmc.fitD n1) (w2 : (Lit.int .i64 a2).wf = true) (hT : txc.Tabs w) :
    Calls Tryd.prog 3 #[.slice a0 len0 cap0, .agg #[c1_0, c1_1, c1_2, c1_3], .int .i64 a2] w fun e w' => e = .returned (.bool true) ∧ Below w.heap.size w w' := by
  obtain ⟨o1, m1, A1, la1, ca1, K1, lk1, ck1, rfl, rfl, rfl, rfl⟩ := w1.shape
  have hm9 : cap0 ≤ 9223372036854775807 := by unfold maxLen at m0; omega
  obtain ⟨W0, hW0⟩ : ∃ x, w.alloc (.cells #[.int .i64 o1, .int .i64 m1, .slice A1 la1 ca1, .slice K1 lk1 ck1] 26) = x := ⟨_, rfl⟩
  have hb0 : Below w.heap.size w W0 := by rw [← hW0]; exact below_new _ _
  have p0 : W0.heap[w.heap.size]? = some (.cells #[.int .i64 o1, .int .i64 m1, .slice A1 la1 ca1, .slice K1 lk1 ck1] 26) := by rw [← hW0]; exact heap_new_ _ _
  have HT := Lib.hid (show txc.Tab W0.heap.size W0 from (txc.Tab.on hT hb0).mono hb0.size)
  have HW0 := Lib.hid (tms_below w0 hb0)
  have hx : TmC (fun g => g < W0.heap.size) W0 n1 (.int .i64 o1) (.int .i64 m1) (.slice A1 la1 ca1) (.slice K1 lk1 ck1) := TmC.mono (fun g hg => hg.2) _ _ _ _ _ (TmC.bound _ _ _ _ _ (TmC.below hb0 _ _ _ _ _ w1))
  have HXV := Lib.hid fun (W : World) (hW : Below W0.heap.size W0 W) => (show TmV (fun g => g < W0.heap.size) W n1 (.agg #[.int .i64 o1, .int .i64 m1, .slice A1 la1 ca1, .slice K1 lk1 ck1]) from ⟨_, _, _, _, rfl, TmC.below hW _ _ _ _ _ hx⟩)
  have HXB := Lib.hid fun (W : World) (hW : Below W0.heap.size W0 W) => boxT hW p0
  have HH := Lib.hid (head_any W0 HT.out)
  have HB0 := Lib.hid hb0
  have HWW := Lib.hid hW0
  have HE0 := Lib.hid e0
  have HY0 := Lib.hid y0
  clear hT w0 w1 y0 y1 e0 m0 hx p0 hb0 hW0 w2
  by_cases hl : len0 ≤ 200
  · have hlz : ¬ (200 : Int) < (len0 : Int) := by omega
    go_enter Tryd.func3, Tryd.ntmps3
    go_wp2_with (first | (go_at_call 12; rw [HWW.out]; refine HH.out.mono ?_; rintro e wa ⟨rfl, hba⟩; have HBA := Lib.hid hba; clear hba) | (go_at_call 13; refine (new_any wa).mono ?_; rintro e wv ⟨rfl, hV, hbv, hsv⟩; have htw := TW.start (blw HBA.out hbv) (hV.mono (S' := fun g => W0.heap.size ≤ g) fun g hg => Nat.le_trans HBA.out.size hg); have HTW := Lib.hid htw; obtain ⟨b0, b1, b2, b3⟩ := HXB.out _ htw.bel; have hp := parts_of _ n1 (Nat.le_refl _) (.agg #[.int .i64 o1, .int .i64 m1, .slice A1 la1 ca1, .slice K1 lk1 ck1]) 2000 _ (HXV.out _ htw.bel) (by omega) (by omega); have HP := Lib.hid hp; clear hp htw hV hbv hsv))
    obtain ⟨W3, hW3⟩ : ∃ x, wv.alloc (.cells #[.slice none 0 0] 32) = x := ⟨_, rfl⟩
    rw [hW3] at HTW HP b0 b1 b2 b3 ⊢
    obtain ⟨rb, hrb⟩ : ∃ x, wv.heap.size = x := ⟨_, rfl⟩
    obtain ⟨vb, hvb⟩ : ∃ x, wa.heap.size + 1 = x := ⟨_, rfl⟩
    obtain ⟨mb, hmb⟩ : ∃ x, wa.heap.size = x := ⟨_, rfl⟩
    rw [hvb, hmb, hrb] at HTW
    rw [hvb, hrb]
    clear hvb hmb hrb hW3
    have hpt := partsF_true _ n1 (Nat.le_refl _) 2000 (by omega)
    have hpb := partsF_bd _ n1 (Nat.le_refl _) 2000 (by omega)
    obtain ⟨p, hpp⟩ : ∃ x, partsF n1 2000 = x := ⟨_, rfl⟩
    rw [hpp] at HP hpt hpb
    clear hpp
    refine HP.out.mono ?_
    rintro e wp ⟨rfl, hbp⟩
    have HTW1 := Lib.hid (HTW.out.below hbp)
    clear b0 b1 b2 b3 HP hbp HTW
    by_cases hbig : 2000 < p
    · clear hpt
      go_wp2
      go_ret
      exact ⟨rfl, blw HB0.out HTW1.out.bel⟩
    · have HSX : Hid (szT n1 ≤ 2000) := Lib.hid (by have := hpt (by omega); omega)
      clear hpt
      go_wp2_with fail
      go_loopg [10, 11, 12, 13, 14, 15, 16] (len0 + 1) (fun gk s10 s11 s12 s13 s14 s15 s16 wx => ∃ (i : Nat) (ob od : Option Nat) (L : List tmc.Tm), s10 = .int .i64 i ∧ i ≤ len0 ∧ len0 - i < gk ∧ Hid (TW W0 (fun _ => False) vb mb ob rb od L L wx ∧ ∀ t ∈ L, tmc.szT t ≤ 2000))
      case atStart => exact ⟨0, none, none, [], rfl, by omega, by omega, Lib.hid ⟨HTW1.out, fun t ht => by simp at ht⟩⟩
      case round =>
        obtain ⟨i, ob, od, L, rfl, hi, hgk, HI⟩ := hrel
        by_cases hlt : i < len0
        · have hltz : (i : Int) < (len0 : Int) := by omega
          obtain ⟨gk', rfl⟩ : ∃ g', gk = g' + 1 := ⟨gk - 1, by omega⟩
          have HN := Lib.hid (And.intro (show i + 1 ≤ len0 from hlt) (show len0 - (i + 1) < gk' by omega))
          obtain ⟨t, ht⟩ : ∃ t, x0[i]? = some t := ⟨_, List.getElem?_eq_getElem (by rw [HE0.out]; exact hlt)⟩
          have hfd := fitDs_all.1 HY0.out t (List.mem_of_getElem? ht)
          obtain ⟨g, off, to, tm, tA, tla, tca, tK, tlk, tck, rfl, hat⟩ := tms_at HW0.out ht
          have HAT := Lib.hid hat
          obtain ⟨e0, e1, e2, e3, hv⟩ := hat wr HI.out.1.bel
          have hp := parts_of _ t (Nat.le_refl _) (.agg #[.int .i64 to, .int .i64 tm, .slice tA tla tca, .slice tK tlk tck]) 2000 wr hv (by omega) (by omega)
          have hpt := partsF_true _ t (Nat.le_refl _) 2000 (by omega)
          have hpb := partsF_bd _ t (Nat.le_refl _) 2000 (by omega)
          obtain ⟨p2, hpp⟩ : ∃ x, partsF t 2000 = x := ⟨_, rfl⟩
          rw [hpp] at hp hpt hpb
          have HP := Lib.hid hp
          clear hp hpp hat hv hgk ht
          by_cases hbig2 : 2000 < p2
          · clear hpt hfd
            go_wp2_with (go_at_call 14; refine HP.out.mono ?_; rintro e wq ⟨rfl, hbq⟩)
            go_ret
            exact ⟨rfl, blw HB0.out (blw HI.out.1.bel hbq)⟩
          · have hsz : szT t ≤ 2000 := by have := hpt (by omega); omega
            have HSZ := Lib.hid (And.intro hsz hfd)
            obtain ⟨k, hk⟩ : ∃ x, (internV t L).1 = x := ⟨_, rfl⟩
            obtain ⟨ee, hee⟩ : ∃ x, (internV t L).2.1 = x := ⟨_, rfl⟩
            obtain ⟨L2, hL2⟩ : ∃ x, (internV t L).2.2 = x := ⟨_, rfl⟩
            have hin : internV t L = (k, ee, L2) := by rw [← hk, ← hee, ← hL2]
            have HINE := Lib.hid hin
            clear hpt hpb hsz hfd hk hee hL2 hin
            go_wp2_with fail
            refine HP.out.mono ?_
            rintro e wq ⟨rfl, hbq⟩
            have HQ := Lib.hid (HI.out.1.below hbq)
            clear e0 e1 e2 e3 HP hbq
            obtain ⟨e0, e1, e2, e3, hv⟩ := HAT.out wq HQ.out.bel
            have hcp := copied_nf t (by have := HSZ.out.1; omega) HSZ.out.2 _ (.agg #[.int .i64 to, .int .i64 tm, .slice tA tla tca, .slice tK tlk tck]) wq hv
            have HCP := Lib.hid hcp
            clear hcp hv
            go_wp2_with fail
            refine HCP.out.mono ?_
            rintro e wc ⟨v5, rfl, ⟨y0, y1, y2, y3, rfl, hy⟩, hbc, hnf⟩
            obtain ⟨uo, um, uA, ula, uca, uK, ulk, uck, rfl, rfl, rfl, rfl⟩ := hy.shape
            obtain ⟨W5, hW5, hb5, pb5⟩ := own_term (wt := wc) (.int .i64 uo) (.int .i64 um) (.slice uA ula uca) (.slice uK ulk uck)
            obtain ⟨X, hX⟩ : ∃ X : Nat → Prop, X = fun g => wq.heap.size ≤ g ∧ g < W5.heap.size := ⟨_, rfl⟩
            have htw5 := HQ.out.fresh X (fun g hg => by rw [hX] at hg; exact hg.1) (hbc.trans (hb5.mono hbc.size))
            have hXb : ∀ g, X g → g < W5.heap.size := fun g hg => by rw [hX] at hg; exact hg.2
            have hv5 : TmV (fun g => wq.heap.size ≤ g ∧ g < wc.heap.size) W5 t (.agg #[.int .i64 uo, .int .i64 um, .slice uA ula uca, .slice uK ulk uck]) := ⟨_, _, _, _, rfl, TmC.below hb5 _ _ _ _ _ (TmC.bound _ _ _ _ _ hy)⟩
            have hin := htw5.intern hXb hv5 (fun g hg => by rw [hX]; exact ⟨hg.1, Nat.lt_of_lt_of_le hg.2 hb5.size⟩) HT.out (by have := HSZ.out.1; omega)
            rw [HINE.out] at hin
            have HIN := Lib.hid hin
            have HY := Lib.hid (And.intro hX (And.intro hy (And.intro (hnf _ _ _ _ _ _ rfl) (And.intro hb5 (And.intro hbc (And.intro pb5 hXb))))))
            have HW5 := Lib.hid hW5
            obtain ⟨bx0, bx1, bx2, bx3⟩ := boxT (Below.refl W5.heap.size W5) pb5
            obtain ⟨bx, hbx⟩ : ∃ x, wc.heap.size = x := ⟨_, rfl⟩
            have HBX := Lib.hid hbx
            rw [hbx] at bx0 bx1 bx2 bx3
            clear hin hv5 htw5 hX hy hnf hb5 hbc pb5 hXb hW5 e0 e1 e2 e3 HCP
            go_wp2_with fail
            rw [HW5.out]
            clear hbx
            refine HIN.out.mono ?_
            rintro e w6 ⟨ob2, rfl, htw6, hs6, hk6⟩
            have htw6 : TW W0 X vb mb ob2 rb od L2 L w6 := htw6
            have hXb6 : ∀ g, X g → g < w6.heap.size := fun g hg => Nat.lt_of_lt_of_le (HY.out.2.2.2.2.2.2 g hg) hs6
            obtain ⟨e0, e1, e2, e3, hv⟩ := HAT.out w6 htw6.bel
            have hin := htw6.rintern hXb6 hv (by have := HSZ.out.1; omega)
            rw [HINE.out] at hin
            have HIN2 := Lib.hid hin
            have HK6 := Lib.hid (And.intro hs6 hk6)
            clear hin hv htw6 hs6 hk6 hXb6 bx0 bx1 bx2 bx3 HIN HW5
            go_wp2_with fail
            refine HIN2.out.mono ?_
            rintro e w7 ⟨od2, rfl, htw7, hs7, hk7⟩
            have htw7 : TW W0 X vb mb ob2 rb od2 L2 L2 w7 := htw7
            have how := OW.start (bx := bx) htw7 HY.out.1 HQ.out.bel.size HY.out.2.1 HY.out.2.2.1 HY.out.2.2.2.1 HBX.out.symm HY.out.2.2.2.2.1.size (by rw [← HBX.out]; exact HY.out.2.2.2.2.2.1) (Nat.le_trans HK6.out.1 hs7) (fun g hg => (hk7 g hg).trans (HK6.out.2 g hg))
            have hXbx : X bx := by rw [HY.out.1]; exact ⟨by rw [← HBX.out]; exact HY.out.2.2.2.2.1.size, by rw [← HBX.out]; exact (Array.getElem?_eq_some_iff.1 HY.out.2.2.2.2.2.1).1⟩
            have hl25 : ∀ s ∈ L2, szT s ≤ 2000 := fun s hs => by
              have e : L2 = (internV t L).2.2 := by rw [HINE.out]
              rw [e] at hs
              rcases intern_ways t L HI.out.1.vlt.once HI.out.1.vlt.closed HI.out.1.vlt.right with ⟨j, _, _, he⟩ | ⟨_, ee', _, he⟩ | ⟨_, _, _, he, _, _⟩
              · rw [he] at hs; exact HI.out.2 s hs
              · rw [he] at hs; exact HI.out.2 s hs
              · rw [he] at hs
                rcases (put_one t L).size s hs with h | h
                · exact HI.out.2 s h
                · have := HSZ.out.1; omega
            have HOW := Lib.hid how
            have HXX := Lib.hid (And.intro hXbx hl25)
            have hul : ula ≤ 9223372036854775807 := by
              obtain ⟨_, _, h1, h2, _⟩ := data_of HY.out.2.1
              unfold maxLen at h2
              omega
            clear how htw7 hs7 hk7 hXbx hl25 e0 e1 e2 e3 HIN2 HY HQ HK6 HI HINE
            go_wp2_with fail
            go_loopg [16] (ula + 1) (fun gk s16 wx => ∃ (q : Nat), s16 = .int .i64 q ∧ q ≤ ula ∧ ula - q < gk ∧ Hid (OW W0 X vb mb ob2 rb od2 L2 L2 bx (.int .i64 uo) (.int .i64 um) (.slice uK ulk uck) uA ula uca wx))
            case atStart => exact ⟨0, rfl, by omega, by omega, HOW⟩
            case round =>
              obtain ⟨q, rfl, hq, hgk, HO⟩ := hrel
              obtain ⟨bx0, bx1, bx2, bx3⟩ := HO.out.box4
              by_cases hqi : q < ula
              · have hqz : (q : Int) < (ula : Int) := by omega
                obtain ⟨gj', rfl⟩ : ∃ g', gk = g' + 1 := ⟨gk - 1, by omega⟩
                have HM := Lib.hid (And.intro (show q + 1 ≤ ula from hqi) (show ula - (q + 1) < gj' by omega))
                obtain ⟨bb, of, x, rfl, hcx, hxb, hfx, hnx⟩ := HO.out.byte hqi
                have HNX := Lib.hid hnx
                clear hnx hgk
                go_wp2
                go_roundg gj'
                case measure => omega
                case rel =>
                  refine ⟨q + 1, by go_num, HM.out.1, HM.out.2, Lib.hid (HNX.out _ ?_)⟩
                  omega
              · obtain rfl : ula = q := by omega
                have hqz : ¬ (ula : Int) < (ula : Int) := by omega
                obtain ⟨E2, hE2⟩ : ∃ y, IntKind.i64.wrap (um + 1) = y := ⟨_, rfl⟩
                have fb1 := Lib.frozen_of_heap HO.out.box 1
                obtain ⟨W8, hW8⟩ : ∃ x, wr.setCell ⟨bx, 1, none⟩ (.int .i64 E2) = x := ⟨_, rfl⟩
                have htw8 := (HO.out.tw.off HO.out.xlo (Off.set wr bx 1 (.int .i64 E2) HXX.out.1)).drop
                rw [hW8] at htw8
                obtain ⟨A9, c9, x9⟩ := Vlt.box htw8.vlt
                obtain ⟨A8, c8, x8, _⟩ := htw8.rvl.at
                obtain ⟨l2, hl2⟩ : ∃ x, L2.length = x := ⟨_, rfl⟩
                rw [hl2] at x9 x8
                have x8' := fun d os => cell_regrown x8 d os
                have HLEN := Lib.hid fun (d : Nat) (os : Array Obj) => (show Calls Tryd.prog 18 #[.pointer (some ⟨vb, 0, none⟩)] (Sort.grow (redrawn W8 d) os) fun e w' => e = .returned (.int .i64 l2) ∧ Below (Sort.grow (redrawn W8 d) os).heap.size (Sort.grow (redrawn W8 d) os) w' from (len_cell vb l2 c9 A9 _ (cell_regrown x9 d os)).mono fun e w' ⟨h1, h2⟩ => ⟨h1, by rw [h2]; exact Below.refl _ _⟩)
                have HTW8 := Lib.hid htw8
                have HW8 := Lib.hid hW8
                have hkk : (k != k) = false := by simp
                have hee : (ee != ee) = false := by simp
                clear htw8 x9 x8 hW8 hgk hl2
                go_wp2_with fail
                rw [HW8.out]
                clear bx0 bx1 bx2 bx3 fb1 hE2 HO
                refine wp_region_quiet_below (by kernel_rfl) (by kernel_rfl) ?_
                repeat (go_big_quiet_step ((go_at_call 18; refine Calls.regrown_of (HLEN.out _ _))))
                refine wpQuiet_nil ?_
                intro _ hw'
                obtain ⟨⟨nq', osq⟩, hw''⟩ := hw'
                subst hw''
                have HEND := Lib.hid (And.intro (HTW8.out.below (below_regrown W8 nq' osq)) HXX.out.2)
                clear x8' HLEN hkk hee HTW8
                go_wp2
                go_roundg gk'
                case measure => omega
                case rel => exact ⟨i + 1, ob2, od2, L2, by go_num, HN.out.1, HN.out.2, HEND⟩
        · obtain rfl : len0 = i := by omega
          have hltz : ¬ (len0 : Int) < (len0 : Int) := by omega
          obtain ⟨w9, hw9⟩ : ∃ x, x = wr := ⟨_, rfl⟩
          subst hw9
          obtain ⟨b0, b1, b2, b3⟩ := HXB.out w9 HI.out.1.bel
          have hfd := find_any _ _ vb mb ob L n1 (.agg #[.int .i64 o1, .int .i64 m1, .slice A1 la1 ca1, .slice K1 lk1 ck1]) w9 HI.out.1.vlt (HXV.out w9 HI.out.1.bel) ((HT.out.on HI.out.1.bel).mono HI.out.1.bel.size) (by have := HSX.out; omega)
          have hrf := fun (W : World) (hW : Below w9.heap.size w9 W) => rfind_any _ _ rb od L n1 (.agg #[.int .i64 o1, .int .i64 m1, .slice A1 la1 ca1, .slice K1 lk1 ck1]) W (HI.out.1.rvl.below hW) (HXV.out W (blw HI.out.1.bel hW))
          obtain ⟨NI, hNI⟩ : ∃ x, numI n1 L = x := ⟨_, rfl⟩
          obtain ⟨fb, hfb⟩ : ∃ x, (findV n1 L).isSome = x := ⟨_, rfl⟩
          rw [hNI, hfb] at hfd hrf
          have HFD := Lib.hid hfd
          have HRF := Lib.hid hrf
          clear hfd hrf hNI hfb hgk
          go_wp2_with fail
          refine HFD.out.mono ?_
          rintro e wf ⟨rfl, hbf⟩
          have HF := Lib.hid hbf
          clear b0 b1 b2 b3 hbf HFD
          obtain ⟨b0, b1, b2, b3⟩ := HXB.out wf (blw HI.out.1.bel HF.out)
          go_wp2_with fail
          refine (HRF.out wf HF.out).mono ?_
          rintro e wg ⟨rfl, hbg⟩
          have HG := Lib.hid (HI.out.1.below (HF.out.trans (hbg.mono HF.out.size)))
          have HSZL := Lib.hid HI.out.2
          clear b0 b1 b2 b3 hbg HRF HF HI
          obtain ⟨T, isT, hterm, hrterm⟩ := both_terms (S := fun g => W0.heap.size ≤ g ∧ ¬ MutR rb od g ∧ ¬ False) (Q := fun g => g < W0.heap.size) (vb := vb) (mb := mb) (ob := ob) (rb := rb) (od := od) (L := L) a2 (fun t ht => by have := HSZL.out t ht; omega)
          have HTERM := Lib.hid hterm
          have HRTERM := Lib.hid hrterm
          clear hterm hrterm
          go_wp2_with fail
          refine (HTERM.out wg HG.out.vlt).mono ?_
          rintro e wt ⟨v1, rfl, ⟨y0, y1, y2, y3, rfl, hy⟩, hbt, hnf⟩
          obtain ⟨uo, um, uA, ula, uca, uK, ulk, uck, rfl, rfl, rfl, rfl⟩ := hy.shape
          obtain ⟨W5, hW5, hb5, pb5⟩ := own_term (wt := wt) (.int .i64 uo) (.int .i64 um) (.slice uA ula uca) (.slice uK ulk uck)
          obtain ⟨X, hX⟩ : ∃ X : Nat → Prop, X = fun g => wg.heap.size ≤ g ∧ g < W5.heap.size := ⟨_, rfl⟩
          have htw5 := HG.out.fresh X (fun g hg => by rw [hX] at hg; exact hg.1) (hbt.trans (hb5.mono hbt.size))
          have HY := Lib.hid (And.intro hX (And.intro hy (And.intro (hnf _ _ _ _ _ _ rfl) (And.intro hb5 (And.intro hbt (And.intro pb5 htw5))))))
          have HW5 := Lib.hid hW5
          have HRT := Lib.hid (HRTERM.out W5 htw5.rvl (fun g hg => Nat.lt_of_lt_of_le hg htw5.bel.size))
          obtain ⟨bx, hbx⟩ : ∃ x, wt.heap.size = x := ⟨_, rfl⟩
          have HBX := Lib.hid hbx
          clear hX hy hnf hb5 hbt pb5 htw5 hW5
          go_wp2_with fail
          rw [HW5.out]
          clear hbx
          refine HRT.out.mono ?_
          rintro e w6 ⟨v2, rfl, ⟨z0, z1, z2, z3, rfl, hz⟩, hb6⟩
          obtain ⟨ro, rm, rA, rla, rca, rK, rlk, rck, rfl, rfl, rfl, rfl⟩ := hz.shape
          obtain ⟨W7, hW7, hb7, pb7⟩ := own_term (wt := w6) (.int .i64 ro) (.int .i64 rm) (.slice rA rla rca) (.slice rK rlk rck)
          have hb57 : Below W5.heap.size W5 W7 := hb6.trans (hb7.mono hb6.size)
          have pb57 : W7.heap[bx]? = some (.cells #[.int .i64 uo, .int .i64 um, .slice uA ula uca, .slice uK ulk uck] 26) := by
            rw [← HBX.out]
            exact (hb57.block _ (Array.getElem?_eq_some_iff.1 HY.out.2.2.2.2.2.1).1).trans HY.out.2.2.2.2.2.1
          have htw7 := HY.out.2.2.2.2.2.2.below hb57
          have how := OW.start (bx := bx) htw7 HY.out.1 HG.out.bel.size HY.out.2.1 HY.out.2.2.1 HY.out.2.2.2.1 HBX.out.symm HY.out.2.2.2.2.1.size (by rw [← HBX.out]; exact HY.out.2.2.2.2.2.1) hb57.size (fun g hg => hb57.block g (by rw [HY.out.1] at hg; exact hg.2))
          have hs7 : TmC (fun g => wg.heap.size ≤ g) W7 T (.int .i64 uo) (.int .i64 um) (.slice uA ula uca) (.slice uK ulk uck) := TmC.below hb57 _ _ _ _ _ (TmC.below HY.out.2.2.2.1 _ _ _ _ _ HY.out.2.1)
          have ht7 : TmC (fun g => g < W0.heap.size) W7 T (.int .i64 ro) (.int .i64 rm) (.slice rA rla rca) (.slice rK rlk rck) := TmC.below hb7 _ _ _ _ _ hz
          have hsame := tsame_any T T _ _ (.agg #[.int .i64 uo, .int .i64 um, .slice uA ula uca, .slice uK ulk uck]) (.agg #[.int .i64 ro, .int .i64 rm, .slice rA rla rca, .slice rK rlk rck]) W7 ⟨_, _, _, _, rfl, hs7⟩ ⟨_, _, _, _, rfl, ht7⟩
          rw [show alikeB T T = true from alike_iff.2 rfl] at hsame
          have HSAME := Lib.hid hsame
          have HOW := Lib.hid how
          have HT7 := Lib.hid (And.intro ht7 (And.intro pb7 (And.intro (show ∀ g, X g → g < w6.heap.size from fun g hg => by rw [HY.out.1] at hg; exact Nat.lt_of_lt_of_le hg.2 hb6.size) htw7.bel)))
          have HW7 := Lib.hid hW7
          obtain ⟨bx0, bx1, bx2, bx3⟩ := boxT (Below.refl W7.heap.size W7) pb57
          obtain ⟨bt, hbt⟩ : ∃ x, w6.heap.size = x := ⟨_, rfl⟩
          obtain ⟨bt0, bt1, bt2, bt3⟩ := boxT (Below.refl W7.heap.size W7) pb7
          rw [hbt] at bt0 bt1 bt2 bt3
          have HBT := Lib.hid hbt
          rw [← hW7] at bx0 bx1 bx2 bx3 bt0 bt1 bt2 bt3
          have hul : ula ≤ 9223372036854775807 := by
            obtain ⟨_, _, h1, h2, _⟩ := data_of HY.out.2.1
            unfold maxLen at h2
            omega
          clear how hs7 ht7 hsame hb57 pb57 htw7 hb6 hb7 pb7 hz hW7 HRT HY
          go_wp2_with fail
          rw [HW7.out]
          clear hbt
          refine HSAME.out.mono ?_
          rintro e w8 ⟨rfl, hb8⟩
          have how8 : OW W0 X vb mb ob rb od L L bx (.int .i64 uo) (.int .i64 um) (.slice uK ulk uck) uA ula uca w8 := ⟨HOW.out.tw.below hb8, (hb8.block _ (Array.getElem?_eq_some_iff.1 HOW.out.box).1).trans HOW.out.box, by obtain ⟨d, hd⟩ := HOW.out.data; exact ⟨d, hd.below hb8⟩, by obtain ⟨d, hd⟩ := HOW.out.data; exact HOW.out.nf.keep hd fun _ g _ _ _ hg => hb8.block g hg, HOW.out.inx, HOW.out.xlo⟩
          have hb8t : w8.heap[bt]? = some (.cells #[.int .i64 ro, .int .i64 rm, .slice rA rla rca, .slice rK rlk rck] 26) := by
            rw [← HBT.out]
            exact (hb8.block _ (Array.getElem?_eq_some_iff.1 HT7.out.2.1).1).trans HT7.out.2.1
          have HO8 := Lib.hid (And.intro how8 (And.intro hb8t hb8))
          clear how8 hb8t hb8 bx0 bx1 bx2 bx3 bt0 bt1 bt2 bt3 HSAME HW7 HOW HW5 HBX
          go_wp2_with fail
          go_loopg [26] (ula + 1) (fun gk s26 wx => ∃ (q : Nat), s26 = .int .i64 q ∧ q ≤ ula ∧ ula - q < gk ∧ Hid (OW W0 X vb mb ob rb od L L bx (.int .i64 uo) (.int .i64 um) (.slice uK ulk uck) uA ula uca wx ∧ wx.heap[bt]? = some (.cells #[.int .i64 ro, .int .i64 rm, .slice rA rla rca, .slice rK rlk rck] 26) ∧ w8.heap.size ≤ wx.heap.size))
          case atStart => exact ⟨0, rfl, by omega, by omega, Lib.hid ⟨HO8.out.1, HO8.out.2.1, Nat.le_refl _⟩⟩
          case round =>
            obtain ⟨q, rfl, hq, hgk, HO⟩ := hrel
            obtain ⟨wq, hwq⟩ : ∃ x, x = wr := ⟨_, rfl⟩
            subst hwq
            obtain ⟨bx0, bx1, bx2, bx3⟩ := HO.out.1.box4
            by_cases hqi : q < ula
            · have hqz : (q : Int) < (ula : Int) := by omega
              obtain ⟨gj', rfl⟩ : ∃ g', gk = g' + 1 := ⟨gk - 1, by omega⟩
              have HM := Lib.hid (And.intro (show q + 1 ≤ ula from hqi) (show ula - (q + 1) < gj' by omega))
              obtain ⟨bb, of, x, rfl, hcx, hxb, hfx, hnx⟩ := HO.out.1.byte hqi
              have hne : bt ≠ bb := fun e => by
                have h1 := HT7.out.2.2.1 bb (HO.out.1.inx (by omega) _ _ _ rfl).1
                rw [← HBT.out] at e
                omega
              have hnx2 := fun v hv => And.intro (hnx v hv) (And.intro ((set_heap_other wq bb (of + q) bt (.int .u8 v) hne).trans HO.out.2.1) (show w8.heap.size ≤ (wq.setCell ⟨bb, of + q, none⟩ (.int .u8 v)).heap.size by rw [set_size]; exact HO.out.2.2))
              have HNX := Lib.hid hnx2
              clear hnx hnx2 hgk
              go_wp2
              go_roundg gj'
              case measure => omega
              case rel =>
                refine ⟨q + 1, by go_num, HM.out.1, HM.out.2, Lib.hid (HNX.out _ ?_)⟩
                omega
            · obtain rfl : ula = q := by omega
              have hqz : ¬ (ula : Int) < (ula : Int) := by omega
              have HTQ := Lib.hid HO.out.1.tw.drop
              have HTM := Lib.hid (HTERM.out wq HTQ.out.vlt)
              have hlo := TmC.stays (stays_lo HT7.out.2.2.2 HTQ.out.bel (Nat.le_trans HO8.out.2.2.size HO.out.2.2)) _ _ _ _ _ HT7.out.1
              have HLO := Lib.hid (And.intro hlo HO.out.2.1)
              clear hlo hgk
              go_wp2_with fail
              refine HTM.out.mono ?_
              rintro e wu ⟨v3, rfl, ⟨y0, y1, y2, y3, rfl, hy⟩, hbu, _⟩
              obtain ⟨vo, vm, vA, vla, vca, vK, vlk, vck, rfl, rfl, rfl, rfl⟩ := hy.shape
              obtain ⟨W9, hW9, hb9, pb9⟩ := own_term (wt := wu) (.int .i64 vo) (.int .i64 vm) (.slice vA vla vca) (.slice vK vlk vck)
              have hbq9 : Below wq.heap.size wq W9 := hbu.trans (hb9.mono hbu.size)
              obtain ⟨bt0, bt1, bt2, bt3⟩ := boxT hbq9 HLO.out.2
              obtain ⟨bu0, bu1, bu2, bu3⟩ := boxT (Below.refl W9.heap.size W9) pb9
              have hsame := tsame_any T T _ _ (.agg #[.int .i64 vo, .int .i64 vm, .slice vA vla vca, .slice vK vlk vck]) (.agg #[.int .i64 ro, .int .i64 rm, .slice rA rla rca, .slice rK rlk rck]) W9 ⟨_, _, _, _, rfl, TmC.below hb9 _ _ _ _ _ hy⟩ ⟨_, _, _, _, rfl, TmC.below hbq9 _ _ _ _ _ HLO.out.1⟩
              rw [show alikeB T T = true from alike_iff.2 rfl] at hsame
              have HSAME := Lib.hid hsame
              have HW9 := Lib.hid hW9
              have HEND := Lib.hid (blw HTQ.out.bel hbq9)
              obtain ⟨bu, hbu2⟩ : ∃ x, wu.heap.size = x := ⟨_, rfl⟩
              rw [hbu2] at bu0 bu1 bu2 bu3
              rw [← hW9] at bt0 bt1 bt2 bt3 bu0 bu1 bu2 bu3
              clear hsame hy hbu hb9 pb9 hbq9 hW9 bx0 bx1 bx2 bx3 HTM HLO
              go_wp2_with fail
              rw [HW9.out]
              refine HSAME.out.mono ?_
              rintro e wz ⟨rfl, hbz⟩
              have HFIN := Lib.hid (blw HB0.out (blw HEND.out hbz))
              clear hbz bt0 bt1 bt2 bt3 bu0 bu1 bu2 bu3 hbu2 HSAME HW9
              go_wp2
              go_ret
              exact ⟨by simp, HFIN.out⟩
  · have hlz : (200 : Int) < (len0 : Int) := by omega
    go_enter Tryd.func3, Tryd.ntmps3
    go_wp2_with (first | (go_at_call 12; rw [HWW.out]; refine HH.out.mono ?_; rintro e wa ⟨rfl, hba⟩; have HBA := Lib.hid hba; clear hba) | (go_at_call 13; refine (new_any wa).mono ?_; rintro e wv ⟨rfl, hV, hbv, hsv⟩; have HBV := Lib.hid (blw HB0.out ((blw HBA.out hbv).trans ((below_new wv (.cells #[.slice none 0 0] 32)).mono (blw HBA.out hbv).size))); clear hV hbv hsv))
    go_ret
    exact ⟨rfl, HBV.out⟩

theorem reads (os : Os) {H : Type} (enc : TypeId × Value → H) : ∃ places, DataW.whole enc Tryd.prog ((txc.laidWorld os).forCall (fun _ _ => 0) ⟨#[], #[.slice none 0 0, .agg #[.int .i64 0, .int .i64 0, .slice none 0 0, .slice none 0 0], .int .i64 0], []⟩).memory Tryd.f3.params.toList Rows.vaultTellsSpec.vars false (#[.slice none 0 0, .agg #[.int .i64 0, .int .i64 0, .slice none 0 0, .slice none 0 0], .int .i64 0] : Array Value).toList 8 = some ([.nil, .agg [.lit (.int .i64 0), .lit (.int .i64 0), .nil, .nil], .lit (.int .i64 0)], [], places) :=
  ⟨[], by kernel_rfl⟩
set_option maxRecDepth 100000 in
theorem lifted (os : Os) (started : os.Started) (H : Type) (enc : TypeId × Value → H) (F : Stop.Interp) :
    ReturnsInHanded {} Tryd.checked os 3 .any ((OpenSpec.ofChange Rows.vaultTellsSpec).preRow enc Tryd.prog Tryd.f3 Rows.vaultTellsRow.domain false Rows.vaultTellsRow.laid) (((OpenSpec.ofChange Rows.vaultTellsSpec).at F).post enc Tryd.prog Tryd.f3 false true false false) := by
  obtain ⟨places, hx⟩ := reads os enc
  refine returnsInHanded_of_row (C := Tryd.checked) (s := (OpenSpec.ofChange Rows.vaultTellsSpec)) own started (by kernel_rfl) Tryd.func3
    (witness_row_at (enc := enc) (C := Tryd.checked) false (txc.laidWorld os) #[.slice none 0 0, .agg #[.int .i64 0, .int .i64 0, .slice none 0 0, .slice none 0 0], .int .i64 0] rfl (by kernel_rfl) (by kernel_rfl) (by kernel_rfl)
      (OpenSpec.preRow_of_cond 8 hx (by kernel_rfl) (fun k hk => by cases hk) (by kernel_rfl) (txc.laid_met os _))) ?_
  intro W base args ds gs before hval0 hW hcnd hcond hsz0 hL _ _
  have hval : ∀ (j : Nat) t v, Tryd.f3.params[j]? = some t → args[j]? = some v → Value.okWide Tryd.prog W .any base t v := hval0
  have hW' := hW
  obtain ⟨p, q, hA0, hV, rfl, hfz, hnd⟩ := hW
  have hA : DataW.TrodAll enc Tryd.prog W 0 (fun _ => true) true Tryd.f3.params.toList args.toList ds p := hA0
  have hsz : (DataW.weightsEach Tryd.prog (Tryd.f3.params.toList ++ (OpenSpec.ofChange Rows.vaultTellsSpec).bare.plain.varTypes Tryd.prog) (ds ++ gs)).all (· ≤ reachBytes) = true := hsz0
  rw [Tryd.params3] at hA hval hsz
  obtain ⟨v0, vs0, d0, ds0, p0, q0, hargs, rfl, rfl, h0, r_0⟩ := trodAll_cons hA
  obtain ⟨v1, vs1, d1, ds1, p1, q1, rfl, rfl, rfl, h1, r_1⟩ := trodAll_cons r_0
  obtain ⟨v2, vs2, d2, ds2, p2, q2, rfl, rfl, rfl, h2, r_2⟩ := trodAll_cons r_1
  obtain ⟨rfl, rfl, rfl⟩ := trodAll_nil r_2
  obtain rfl : args = #[v0, v1, v2] := by cases args; simp_all
  obtain ⟨rfl, rfl⟩ := trodVars_none hV
  obtain ⟨a0, len0, cap0, rfl⟩ := okWide_slice Tryd.underlying22 (hval 0 22 v0 rfl rfl)
  have k0 := h0
  have lt0 : ∀ x ∈ p0, x.block < W.heap.size := by obtain ⟨m, hm⟩ := k0; exact DataW.trod_lt m _ _ _ hm
  obtain ⟨x0, e0, w0, l0, m0, z0⟩ := tmc.open_tms ({ U := _, f0 := _, f1 := _, f2 := _, f3 := _, hT := Tryd.underlying26, hone := by kernel_rfl, hC := by kernel_rfl, e0 := Tryd.underlying23, e1 := Tryd.underlying2, e2 := Tryd.underlying24, eU := Tryd.underlying5, cU := by kernel_rfl, bU := by kernel_rfl, e3 := Tryd.underlying22 }) Tryd.underlying22 h0
  have y0 := z0 (tmc.each_fit hsz (j := 0) rfl rfl)
  have k1 := h1
  have lt1 : ∀ x ∈ p1, x.block < W.heap.size := by obtain ⟨m, hm⟩ := k1; exact DataW.trod_lt m _ _ _ hm
  obtain ⟨n1, c1_0, c1_1, c1_2, c1_3, rfl, w1, z1⟩ := tmc.open_tm ({ U := _, f0 := _, f1 := _, f2 := _, f3 := _, hT := Tryd.underlying26, hone := by kernel_rfl, hC := by kernel_rfl, e0 := Tryd.underlying23, e1 := Tryd.underlying2, e2 := Tryd.underlying24, eU := Tryd.underlying5, cU := by kernel_rfl, bU := by kernel_rfl, e3 := Tryd.underlying22 }) (hval 1 26 v1 rfl rfl) h1
  have y1 := z1 (tmc.each_fit hsz (j := 1) rfl rfl)
  obtain ⟨a2, rfl, rfl, rfl, w2⟩ := open_int Tryd.underlying3 (hval 2 3 v2 rfl rfl) h2
  clear hA0 hval0
  have hT : txc.Tabs W := txc.tabs_of hL
  refine (walk a0 len0 cap0 x0 n1 c1_0 c1_1 c1_2 c1_3 a2 W e0 w0 l0 m0 y0 w1 y1 w2 hT).mono fun e W' ⟨he, bel⟩ => ?_
  subst he
  exact ⟨_, rfl, _, _, _, [], _, [], hW', trodAll_mk1 (shut_bool Tryd.underlying4 _), (trodAll_cons_mk (Below.trod laidOut (by kernel_rfl) (of_decide_eq_true (by kernel_rfl)) k0 bel lt0) (trodAll_cons_mk (Below.trod laidOut (by kernel_rfl) (of_decide_eq_true (by kernel_rfl)) k1 bel lt1) (trodAll_cons_mk (shut_int Tryd.underlying3 w2) trodAll_mk0))), rfl, bel.frame _, fun h => by cases h⟩

theorem over : Rows.vaultTellsRow.holds Tryd.pinned (OpenSpec.ofChange Rows.vaultTellsSpec) :=
  OpenClaim.holds_of_cond 3 Tryd.f3 rfl rfl rfl rfl rfl rfl rfl ⟨rfl, rfl, rfl, rfl, rfl⟩ rfl rfl rfl rfl rfl (by kernel_rfl) Tryd.func3 (by kernel_rfl)
    (of_decide_eq_true (by kernel_rfl)) (by unfold Func.isWrapper; first | (rw [if_pos (by decide +kernel)]; kernel_rfl) | (rw [if_neg (by decide +kernel)]; exact ⟨rfl, rfl⟩))
    (fun os started H enc _ F => by rw [OpenClaim.pre_eq_preRow]; exact lifted os started H enc F)

theorem plain (f : FuncId) (fn : Func) (hf : Tryd.pinned.checked.prog.funcNamed "warder/warderlaw06.VaultTells" = some f) (hfn : Tryd.pinned.checked.prog.funcs[f]? = some fn) :
    false = Tryd.pinned.checked.prog.looks [] ∧ ∀ (j : Nat) t, fn.params[j]? = some t → Tryd.pinned.checked.prog.wantsStandIn t = false := by
  obtain rfl : f = 3 := Option.some.inj ((show Tryd.prog.funcNamed "warder/warderlaw06.VaultTells" = some 3 by kernel_rfl).symm.trans hf) |>.symm
  obtain rfl : fn = Tryd.f3 := (Option.some.inj (Tryd.func3.symm.trans hfn)).symm
  refine ⟨by kernel_rfl, fun j t ht => ?_⟩
  rw [Tryd.params3] at ht
  match j, ht with
    | 0, ht => obtain rfl : t = 22 := (Option.some.inj ht).symm; exact (show Tryd.prog.wantsStandIn 22 = false by kernel_rfl)
    | 1, ht => obtain rfl : t = 26 := (Option.some.inj ht).symm; exact (show Tryd.prog.wantsStandIn 26 = false by kernel_rfl)
    | 2, ht => obtain rfl : t = 3 := (Option.some.inj ht).symm; exact (show Tryd.prog.wantsStandIn 3 = false by kernel_rfl)
    | j + 3, ht => simp at ht

theorem proved : Rows.VaultTellsCardSaid :=
  Claim7.holds_tied_plain_at .later [] _ _ _ _ over (fun _ h => by cases h) (by kernel_rfl) (fun _ h => by cases h) vaultTells_row_tie rfl ⟨rfl, rfl⟩ (by kernel_rfl) rfl plain (by kernel_rfl)
#print axioms proved
end Go.Proofs.YtfmdmahlljbbmaaDoor.vaultTells
