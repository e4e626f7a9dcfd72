/- The law VaultMentions of warderlaw06 answers true for every two texts, number and bound, and leaves its arguments as they were; no condition. -/
import Derived.Test.YtfmdmahlljbbmaaDoorCards
import Derived.Test.YtfmdmahlljbbmaaDoorTie
import Derived.WalkKit
import Derived.ProofKit
import Derived.OpenShut
import Derived.ChangeOld
import Derived.Below
import Derived.SizedLaws
import Derived.Test.YtfmdmahlljbbmaaDoorTh
import Derived.Test.YtfmdmahlljbbmaaDoorVtTab
import Derived.Test.YtfmdmahlljbbmaaDoorVp
import Derived.Test.YtfmdmahlljbbmaaDoorVr
import Derived.Lib.QuietBelow
import Derived.BigQuiet
namespace Go.Proofs.YtfmdmahlljbbmaaDoor.vaultMentions
open Go.ChangeShapes Go.WideShapes Go.ChangeAt Go.RowKit
set_option linter.unusedVariables false

theorem own : ownKnob Tryd.prog.godebug = none := by kernel_rfl
theorem laidOut : laidOutB Tryd.prog = true := by kernel_rfl

open Go.Proofs.YtfmdmahlljbbmaaDoor.tlvc Go.Proofs.YtfmdmahlljbbmaaDoor.tmc Go.Proofs.YtfmdmahlljbbmaaDoor.vtc
theorem join_run (wB : World) (A0 : Option Addr) (n0 c0 : Nat) (xs : List Int) (A2 : Option Addr) (n2 c2 : Nat) (ys ms : List Int) (hx : Bys wB A0 n0 xs) (hy : Bys wB A2 n2 ys) (h0 : n0 ≤ 5000) (h2 : n2 ≤ 5000) (hm : ms.length = 10) :
    ∃ v1 u1, (Builtin.append_ #[24, 24] 24 #[.slice (some ⟨wB.heap.size, 0, none⟩) 0 0, .slice A0 n0 c0]).run Tryd.prog (wB.alloc (.cells #[] 5)) = .ok v1 u1 ∧ ∀ wm A1 c1, Bys wm A1 10 ms → Below u1.heap.size u1 wm →
      ∃ v3 u3 A9 c9 u4, (Builtin.append_ #[24, 24] 24 #[v1, .slice A1 10 c1]).run Tryd.prog wm = .ok v3 u3 ∧ (Builtin.append_ #[24, 24] 24 #[v3, .slice A2 n2 c2]).run Tryd.prog u3 = .ok (.slice A9 (n0 + 10 + n2) c9) u4 ∧
        Bys u4 A9 (n0 + 10 + n2) (xs ++ ms ++ ys) ∧ (n0 + 10 + n2 ≤ c9 ∧ c9 ≤ maxLen) ∧ Below wB.heap.size wB u4 := by
  have hal : Below wB.heap.size wB (wB.alloc (.cells #[] 5)) := below_new _ _
  obtain ⟨v1, u1, r1, o1, g1, _⟩ := app_long (wB.alloc (.cells #[] 5)) wB.heap.size (.slice (some ⟨wB.heap.size, 0, none⟩) 0 0) 0 (vals []) (World.ownsRow_lit wB #[] 0 (Nat.le_refl _) (by decide) rfl) A0 n0 c0 xs (hx.below hal) (by omega) hal.size
  have hb1 : Below wB.heap.size wB u1 := hal.grown g1 hal.size fun j hj => by have hj : some wB.heap.size = some j := hj; cases hj; exact Nat.le_refl _
  refine ⟨v1, u1, r1, fun wm A1 c1 hbm hbw => ?_⟩
  have hb2 : Below wB.heap.size wB wm := hb1.trans (hbw.mono hb1.size)
  obtain ⟨v3, u3, r3, o3, g3, _⟩ := app_long wm wB.heap.size v1 (0 + n0) _ (own_below o1 hbw) A1 10 c1 ms hbm (by omega) hb2.size
  have hb3 : Below wB.heap.size wB u3 := hb2.grown g3 hb2.size fun j hj => (o1.lt j hj).1
  obtain ⟨v4, u4, r4, o4, g4, _⟩ := app_long u3 wB.heap.size v3 (0 + n0 + 10) _ o3 A2 n2 c2 ys (hy.below hb3) (by omega) hb3.size
  have hb4 : Below wB.heap.size wB u4 := hb3.grown g4 hb3.size fun j hj => (o3.lt j hj).1
  have e : 0 + n0 + 10 + n2 = n0 + 10 + n2 := by omega
  rw [← vals_append, ← vals_append, ← vals_append, List.nil_append, e] at o4
  obtain ⟨A9, c9, rfl, q1, q2, _⟩ := own_shape o4
  have hfm := hbm.2.1
  exact ⟨v3, u3, A9, c9, u4, r3, r4, Bys.own o4 ((hx.2.1.app hfm).app hy.2.1), ⟨q1, q2⟩, hb4⟩
theorem men_has {xs ys : List Int} {n below : Int} (hx : Fit xs) (hy : Fit ys) (h : 0 ≤ n ∧ n < 281474976710656) : n ∈ mentionsF (xs ++ menF n ++ ys) below ↔ n < below := by
  rw [mentions_mem]
  have hm : Fit (menF n) := fun x hx => by
    unfold menF at hx
    rw [if_pos h] at hx
    rcases List.mem_cons.1 hx with rfl | hx
    · omega
    · rcases List.mem_cons.1 hx with rfl | hx
      · omega
      · exact hbF_fit n x hx
  constructor
  · exact fun h => h.1
  · exact fun hb => ⟨hb, (says_iff ((hx.app hm).app hy) n).2 ⟨h, xs, ys, rfl⟩⟩
theorem men_bd {b : List Int} (hf : Fit b) {below : Int} {i : Nat} (hi : i < (mentionsF b below).length) : (mentionsF b below).getD i 0 < below ∧ 0 ≤ (mentionsF b below).getD i 0 ∧ (mentionsF b below).getD i 0 < 281474976710656 := by
  have hm : (mentionsF b below).getD i 0 ∈ mentionsF b below := by rw [List.getD_eq_getElem?_getD, List.getElem?_eq_getElem hi]; exact List.getElem_mem hi
  obtain ⟨h1, j, h2⟩ := (mentions_mem b below _).1 hm
  exact ⟨h1, atF_bd hf h2⟩
theorem take_mem {l : List Int} {n : Int} {i : Nat} (hi : i < l.length) : decide (n ∈ l.take (i + 1)) = (decide (n ∈ l.take i) || decide (l.getD i 0 = n)) := by
  rw [Bool.eq_iff_iff, Bool.or_eq_true, decide_eq_true_iff, decide_eq_true_iff, decide_eq_true_iff, List.take_succ_eq_append_getElem hi, List.mem_append, List.mem_singleton, List.getD_eq_getElem?_getD, List.getElem?_eq_getElem hi, Option.getD_some]
  exact ⟨fun h => h.imp id Eq.symm, fun h => h.imp id Eq.symm⟩

set_option maxRecDepth 100000 in
set_option maxHeartbeats 16000000 in
theorem walk (a0 : Option Addr) (len0 cap0 : Nat) (x0 : List Int) (a1 : Int) (a2 : Option Addr) (len2 cap2 : Nat) (x2 : List Int) (a3 : Int) (w : World) (w0 : tlvc.Bys w a0 len0 x0) (l0 : len0 ≤ cap0) (r0 : cap0 ≤ 140737488351232) (w1 : (Lit.int .i64 a1).wf = true) (w2 : tlvc.Bys w a2 len2 x2) (l2 : len2 ≤ cap2) (r2 : cap2 ≤ 140737488351232) (w3 : (Lit.int .i64 a3).wf = true) (hT : txc.Tabs w) :
    Calls Tryd.prog 6 #[.slice a0 len0 cap0, .int .i64 a1, .slice a2 len2 cap2, .int .i64 a3] w fun e w' => e = .returned (.bool true) ∧ Below w.heap.size w w' := by
  have hi1 := bounds_i64 w1
  have HH := Lib.hid (head_any w hT)
  have HB := Lib.hid fun W => bytes_any a1 W hi1
  clear w1 hT
  by_cases hr : 0 ≤ a1 ∧ a1 < 281474976710656
  · have H8 := Lib.hid (hbF_len hr)
    have hr0 : ¬ a1 < 0 := by omega
    have hr1 : ¬ 281474976710656 ≤ a1 := by omega
    by_cases hl0 : len0 ≤ 5000
    · have hl0z : ¬ (5000 : Int) < (len0 : Int) := by omega
      by_cases hl2 : len2 ≤ 5000
      · have hl2z : ¬ (5000 : Int) < (len2 : Int) := by omega
        have hnum : ∀ W A c, Bys W A 8 (hbF a1) → 8 ≤ c ∧ c ≤ maxLen → Calls Tryd.prog 24 #[.slice A 8 c] W (NumPost W (some a1)) := fun W A c hb hc => by rw [← num_hb hr]; exact number_any A 8 c (hbF a1) W hb hc.1 hc.2
        have hmention := fun W => mention_any a1 W hi1
        have hjoin := fun (wB : World) (hb : Below w.heap.size w wB) => join_run wB a0 len0 cap0 x0 a2 len2 cap2 x2 (menF a1) (w0.below hb) (w2.below hb) hl0 hl2 (menF_len hr)
        have hfit : Fit (x0 ++ menF a1 ++ x2) := by
          refine (w0.2.1.app fun x hx => ?_).app w2.2.1
          unfold menF at hx
          rw [if_pos hr] at hx
          rcases List.mem_cons.1 hx with rfl | hx
          · omega
          · rcases List.mem_cons.1 hx with rfl | hx
            · omega
            · exact hbF_fit a1 x hx
        have hhas := men_has (below := a3) w0.2.1 w2.2.1 hr
        have hbd := fun i hi => men_bd (below := a3) (i := i) hfit hi
        have hrise := fun i j h1 h2 => rise_at (mentions_rise (x0 ++ menF a1 ++ x2) a3) (i := i) (j := j) h1 h2
        obtain ⟨J, hJ⟩ : ∃ x, x0 ++ menF a1 ++ x2 = x := ⟨_, rfl⟩
        have hmen := fun (A : Option Addr) (n c : Nat) (W : World) hb hc hm hn => mentions_any A n c J a3 W hb hc hm hn
        rw [hJ] at hhas hbd hrise hfit
        obtain ⟨Z, hZ⟩ : ∃ x, mentionsF J a3 = x := ⟨_, rfl⟩
        rw [hZ] at hhas hbd hrise hmen
        rw [hJ] at hjoin
        have hm10 := menF_len hr
        have HNUM := Lib.hid hnum
        have HM := Lib.hid hmention
        have HJ := Lib.hid hjoin
        have HHAS := Lib.hid hhas
        have HBD := Lib.hid hbd
        have HR := Lib.hid hrise
        have HMEN := Lib.hid hmen
        have H10 := Lib.hid hm10
        clear hnum hmention hjoin hhas hbd hrise hmen hm10 hJ hZ hfit w0 w2 r0 r2 l0 l2 hr
        go_enter Tryd.func6, Tryd.ntmps6
        go_wp2_with (first
          | (go_at_call 12; refine HH.out.mono ?_; rintro e wa ⟨rfl, hba⟩; have HBA := Lib.hid hba; clear hba)
          | (go_at_call 26; refine (HB.out _).mono ?_; rintro e wb ⟨Ab, cb, rfl, g1, g2, g3⟩; rw [H8.out] at g1 g2 ⊢; have HBB := Lib.hid (HBA.out.trans (g3.mono HBA.out.size)); obtain ⟨v1, u1, hrun1, hrest⟩ := HJ.out wb HBB.out; have HREST := Lib.hid hrest; have HG := Lib.hid (HNUM.out wb Ab cb g1 g2); clear hrest g1 g2 g3)
          | (go_at_call 24; refine HG.out.mono ?_; rintro e wc ⟨rfl, rfl⟩)
          | (at_builtin; refine wpl_append rfl (.tmp 58) (.tmp 59) 24 rfl _ _ _ rfl rfl hrun1 ?_)
          | (go_at_call 28; refine (HM.out _).mono ?_; rintro e wm ⟨Am, cm, rfl, g1, g2, g3⟩; rw [H10.out] at g1 g2 ⊢; obtain ⟨v3, u3, A9, c9, u4, hrun2, hrun3, q1, q2, q3⟩ := HREST.out wm Am cm g1 g3; have HQ := Lib.hid (And.intro (HMEN.out A9 _ c9 u4 q1 q2.1 q2.2 (by omega)) (HBB.out.trans (q3.mono HBB.out.size))); clear g1 g2 g3 q1 q2 q3)
          | (at_builtin; refine wpl_append rfl (.tmp 60) (.tmp 62) 24 rfl _ _ _ rfl rfl hrun2 ?_)
          | (at_builtin; refine wpl_append rfl (.tmp 63) (.tmp 64) 24 rfl _ _ _ rfl rfl hrun3 ?_)
          | (go_at_call 31; refine HQ.out.1.mono ?_; rintro e w5 ⟨A5, c5, rfl, g1, g2, g3⟩; have HE := Lib.hid (And.intro g1 (And.intro g2 (HQ.out.2.trans (g3.mono HQ.out.2.size)))); clear g1 g2 g3))
        clear hrun1 hrun2 hrun3
        obtain ⟨l, hl⟩ : ∃ x, Z.length = x := ⟨_, rfl⟩
        have HLZ := Lib.hid hl
        have hc5 := HE.out.2.1
        rw [hl] at hc5 ⊢
        have hc59 : c5 ≤ 9223372036854775807 := by have := hc5.2; unfold maxLen at this; omega
        have hlc := hc5.1
        clear hl hc5
        go_loopg [14, 15] (l + 1) (fun gk s14 s15 wx => ∃ (i : Nat), s14 = .bool (decide (a1 ∈ Z.take i)) ∧ s15 = .int .i64 i ∧ i ≤ l ∧ l - i < gk ∧ Hid (Below w5.heap.size w5 wx))
        case atStart => exact ⟨0, by simp, rfl, by omega, by omega, Lib.hid (Below.refl _ _)⟩
        case round =>
          obtain ⟨i, rfl, rfl, hi, hgk, HW⟩ := hrel
          obtain ⟨there, hth⟩ : ∃ x, decide (a1 ∈ Z.take i) = x := ⟨_, rfl⟩
          rw [hth]
          by_cases hlt : i < l
          · have hltz : (i : Int) < (l : Int) := by omega
            obtain ⟨gk', rfl⟩ : ∃ g', gk = g' + 1 := ⟨gk - 1, by omega⟩
            have HN := Lib.hid (And.intro (show i + 1 ≤ l from hlt) (show l - (i + 1) < gk' by omega))
            obtain ⟨b, off, rfl, hbl, hcell⟩ := HE.out.1.2.2 (by rw [HLZ.out]; omega)
            obtain ⟨hz1, hz2, hz3⟩ := HBD.out i (by rw [HLZ.out]; exact hlt)
            have htk := take_mem (n := a1) (l := Z) (i := i) (by rw [HLZ.out]; exact hlt)
            rw [hth] at htk
            have e0 := (HW.out.cell (p := ⟨b, off + i, none⟩) hbl).trans (hcell i (by rw [HLZ.out]; exact hlt))
            have hprev : ∀ j, i = j + 1 → wr.cell? ⟨b, off + j, none⟩ = some (.int .i64 (Z.getD j 0)) ∧ Z.getD j 0 < Z.getD i 0 := fun j hj => ⟨(HW.out.cell (p := ⟨b, off + j, none⟩) hbl).trans (hcell j (by rw [HLZ.out]; omega)), HR.out j i (by omega) (by rw [HLZ.out]; exact hlt)⟩
            obtain ⟨z, hz⟩ : ∃ x, Z.getD i 0 = x := ⟨_, rfl⟩
            rw [hz] at e0 hz1 hz2 hz3 htk hprev
            have hz1' : ¬ a3 ≤ z := by omega
            have hz2' : ¬ z < 0 := by omega
            have e0' := fun d os => cell_regrown e0 d os
            have hd1 : decide (a3 ≤ z) = false := decide_eq_false hz1'
            have hd2 : decide (z < 0) = false := decide_eq_false hz2'
            have HTK := Lib.hid htk
            clear hcell htk hz hgk hth
            have hi0 : (0 : Int) ≤ (i : Int) := by omega
            cases i with
            | zero =>
              clear hprev
              simp only [Nat.add_zero] at e0 e0'
              have hd3 : decide ((0 : Int) < 0) = false := rfl
              cases there with
              | true =>
                rw [Bool.true_or] at HTK
                go_wp2
                refine wp_region_quiet_below (by kernel_rfl) (by kernel_rfl) ?_
                repeat (go_big_quiet_step ((fail)))
                refine wpQuiet_nil ?_
                intro _ hw'
                obtain ⟨⟨nq, osq⟩, hw''⟩ := hw'
                subst hw''
                have HW2 := Lib.hid (HW.out.trans ((below_regrown wr nq osq).mono HW.out.size))
                clear e0' e0
                go_wp2
                go_roundg gk'
                case measure => omega
                case rel => exact ⟨0 + 1, by rw [HTK.out], by go_num, HN.out.1, HN.out.2, HW2⟩
              | false =>
                rw [Bool.false_or] at HTK
                go_wp2
                refine wp_region_quiet_below (by kernel_rfl) (by kernel_rfl) ?_
                repeat (go_big_quiet_step ((fail)))
                refine wpQuiet_nil ?_
                intro _ hw'
                obtain ⟨⟨nq, osq⟩, hw''⟩ := hw'
                subst hw''
                have HW2 := Lib.hid (HW.out.trans ((below_regrown wr nq osq).mono HW.out.size))
                clear e0' e0
                go_wp2
                go_roundg gk'
                case measure => omega
                case rel => exact ⟨0 + 1, by rw [HTK.out]; first | rfl | (congr 1; rw [Bool.eq_iff_iff]; simp), by go_num, HN.out.1, HN.out.2, HW2⟩
            | succ j =>
              obtain ⟨f0, hzp⟩ := hprev j rfl
              obtain ⟨y, hy⟩ : ∃ x, Z.getD j 0 = x := ⟨_, rfl⟩
              rw [hy] at f0 hzp
              have f0' := fun d os => cell_regrown f0 d os
              have hk1 : IntKind.i64.wrap (((j + 1 : Nat) : Int) - 1) = (j : Int) := by rw [IntWalk.i64_in _ (by omega)]; omega
              have hk2 : IntKind.i64.wrap (j : Int) = (j : Int) := IntWalk.i64_in _ (by omega)
              have hk3 : (0 : Int) < (j : Int) + 1 := by omega
              have hk4 : (j : Int) < (l : Int) := by omega
              have hk5 : (0 : Int) ≤ (j : Int) := by omega
              have hk6 : j < l := by omega
              have hd3 : decide ((0 : Int) < (j : Int) + 1) = true := decide_eq_true hk3
              have hzp' : ¬ z ≤ y := by omega
              have hd4 : decide (z ≤ y) = false := decide_eq_false hzp'
              clear hprev hy
              cases there with
              | true =>
                rw [Bool.true_or] at HTK
                go_wp2
                refine wp_region_quiet_below (by kernel_rfl) (by kernel_rfl) ?_
                repeat (go_big_quiet_step ((fail)))
                refine wpQuiet_nil ?_
                intro _ hw'
                obtain ⟨⟨nq, osq⟩, hw''⟩ := hw'
                subst hw''
                have HW2 := Lib.hid (HW.out.trans ((below_regrown wr nq osq).mono HW.out.size))
                clear e0' e0 f0 f0'
                go_wp2
                go_roundg gk'
                case measure => omega
                case rel => exact ⟨j + 1 + 1, by rw [HTK.out], by go_num, HN.out.1, HN.out.2, HW2⟩
              | false =>
                rw [Bool.false_or] at HTK
                go_wp2
                refine wp_region_quiet_below (by kernel_rfl) (by kernel_rfl) ?_
                repeat (go_big_quiet_step ((fail)))
                refine wpQuiet_nil ?_
                intro _ hw'
                obtain ⟨⟨nq, osq⟩, hw''⟩ := hw'
                subst hw''
                have HW2 := Lib.hid (HW.out.trans ((below_regrown wr nq osq).mono HW.out.size))
                clear e0' e0 f0 f0'
                go_wp2
                go_roundg gk'
                case measure => omega
                case rel => exact ⟨j + 1 + 1, by rw [HTK.out]; first | rfl | (congr 1; rw [Bool.eq_iff_iff]; simp), by go_num, HN.out.1, HN.out.2, HW2⟩
          · have hltz : ¬ (i : Int) < (l : Int) := by omega
            obtain rfl : i = l := by omega
            have hfin : there = decide (a1 < a3) := by
              rw [← hth, List.take_of_length_le (by rw [HLZ.out]; exact Nat.le_refl _), decide_eq_decide]
              exact HHAS.out
            have HEND := Lib.hid (HE.out.2.2.trans (HW.out.mono HE.out.2.2.size))
            subst hfin
            clear hth
            by_cases hna : a1 < a3
            · have hnd : decide (a1 < a3) = true := decide_eq_true hna
              rw [hnd]
              go_wp2
              go_ret
              exact ⟨rfl, HEND.out⟩
            · have hnd : decide (a1 < a3) = false := decide_eq_false hna
              rw [hnd]
              go_wp2
              go_ret
              exact ⟨rfl, HEND.out⟩
      · have hl2z : (5000 : Int) < (len2 : Int) := by omega
        clear w0 w2 r0 r2 l0 l2
        go_enter Tryd.func6, Tryd.ntmps6
        go_wp2_with (first | (go_at_call 12; refine HH.out.mono ?_; rintro e wa ⟨rfl, hba⟩; have HBA := Lib.hid hba; clear hba) | (go_at_call 26; refine (HB.out _).mono ?_; rintro e wb ⟨Ab, cb, rfl, g1, g2, g3⟩; rw [H8.out] at g1 g2 ⊢; have HE := Lib.hid (HBA.out.trans (g3.mono HBA.out.size)); clear g1 g2 g3))
        go_ret
        exact ⟨rfl, HE.out⟩
    · have hl0z : (5000 : Int) < (len0 : Int) := by omega
      clear w0 w2 r0 r2 l0 l2
      go_enter Tryd.func6, Tryd.ntmps6
      go_wp2_with (first | (go_at_call 12; refine HH.out.mono ?_; rintro e wa ⟨rfl, hba⟩; have HBA := Lib.hid hba; clear hba) | (go_at_call 26; refine (HB.out _).mono ?_; rintro e wb ⟨Ab, cb, rfl, g1, g2, g3⟩; rw [H8.out] at g1 g2 ⊢; have HE := Lib.hid (HBA.out.trans (g3.mono HBA.out.size)); clear g1 g2 g3))
      go_ret
      exact ⟨rfl, HE.out⟩
  · have H8 : Hid ((hbF a1).length = 0) := Lib.hid (by rw [hbF_none hr]; rfl)
    by_cases hr0 : a1 < 0
    · skip
      clear w0 w2 r0 r2 l0 l2
      go_enter Tryd.func6, Tryd.ntmps6
      go_wp2_with (first | (go_at_call 12; refine HH.out.mono ?_; rintro e wa ⟨rfl, hba⟩; have HBA := Lib.hid hba; clear hba) | (go_at_call 26; refine (HB.out _).mono ?_; rintro e wb ⟨Ab, cb, rfl, g1, g2, g3⟩; rw [H8.out] at g1 g2 ⊢; have HE := Lib.hid (HBA.out.trans (g3.mono HBA.out.size)); clear g1 g2 g3))
      go_ret
      exact ⟨rfl, HE.out⟩
    · have hr1 : 281474976710656 ≤ a1 := by omega
      clear w0 w2 r0 r2 l0 l2
      go_enter Tryd.func6, Tryd.ntmps6
      go_wp2_with (first | (go_at_call 12; refine HH.out.mono ?_; rintro e wa ⟨rfl, hba⟩; have HBA := Lib.hid hba; clear hba) | (go_at_call 26; refine (HB.out _).mono ?_; rintro e wb ⟨Ab, cb, rfl, g1, g2, g3⟩; rw [H8.out] at g1 g2 ⊢; have HE := Lib.hid (HBA.out.trans (g3.mono HBA.out.size)); clear g1 g2 g3))
      go_ret
      exact ⟨rfl, HE.out⟩

theorem reads (os : Os) {H : Type} (enc : TypeId × Value → H) : ∃ places, DataW.whole enc Tryd.prog ((txc.laidWorld os).forCall (fun _ _ => 0) ⟨#[], #[.slice none 0 0, .int .i64 0, .slice none 0 0, .int .i64 0], []⟩).memory Tryd.f6.params.toList Rows.vaultMentionsSpec.vars false (#[.slice none 0 0, .int .i64 0, .slice none 0 0, .int .i64 0] : Array Value).toList 8 = some ([.nil, .lit (.int .i64 0), .nil, .lit (.int .i64 0)], [], places) :=
  ⟨[], by kernel_rfl⟩
set_option maxRecDepth 100000 in
theorem lifted (os : Os) (started : os.Started) (H : Type) (enc : TypeId × Value → H) (F : Stop.Interp) :
    ReturnsInHanded {} Tryd.checked os 6 .any ((OpenSpec.ofChange Rows.vaultMentionsSpec).preRow enc Tryd.prog Tryd.f6 Rows.vaultMentionsRow.domain false Rows.vaultMentionsRow.laid) (((OpenSpec.ofChange Rows.vaultMentionsSpec).at F).post enc Tryd.prog Tryd.f6 false true false false) := by
  obtain ⟨places, hx⟩ := reads os enc
  refine returnsInHanded_of_row (C := Tryd.checked) (s := (OpenSpec.ofChange Rows.vaultMentionsSpec)) own started (by kernel_rfl) Tryd.func6
    (witness_row_at (enc := enc) (C := Tryd.checked) false (txc.laidWorld os) #[.slice none 0 0, .int .i64 0, .slice none 0 0, .int .i64 0] rfl (by kernel_rfl) (by kernel_rfl) (by kernel_rfl)
      (OpenSpec.preRow_of_cond 8 hx (by kernel_rfl) (fun k hk => by cases hk) (by kernel_rfl) (txc.laid_met os _))) ?_
  intro W base args ds gs before hval0 hW hcnd hcond hsz0 hL _ _
  have hval : ∀ (j : Nat) t v, Tryd.f6.params[j]? = some t → args[j]? = some v → Value.okWide Tryd.prog W .any base t v := hval0
  have hW' := hW
  obtain ⟨p, q, hA0, hV, rfl, hfz, hnd⟩ := hW
  have hA : DataW.TrodAll enc Tryd.prog W 0 (fun _ => true) true Tryd.f6.params.toList args.toList ds p := hA0
  have hsz : (DataW.weightsEach Tryd.prog (Tryd.f6.params.toList ++ (OpenSpec.ofChange Rows.vaultMentionsSpec).bare.plain.varTypes Tryd.prog) (ds ++ gs)).all (· ≤ reachBytes) = true := hsz0
  rw [Tryd.params6] at hA hval hsz
  obtain ⟨v0, vs0, d0, ds0, p0, q0, hargs, rfl, rfl, h0, r_0⟩ := trodAll_cons hA
  obtain ⟨v1, vs1, d1, ds1, p1, q1, rfl, rfl, rfl, h1, r_1⟩ := trodAll_cons r_0
  obtain ⟨v2, vs2, d2, ds2, p2, q2, rfl, rfl, rfl, h2, r_2⟩ := trodAll_cons r_1
  obtain ⟨v3, vs3, d3, ds3, p3, q3, rfl, rfl, rfl, h3, r_3⟩ := trodAll_cons r_2
  obtain ⟨rfl, rfl, rfl⟩ := trodAll_nil r_3
  obtain rfl : args = #[v0, v1, v2, v3] := by cases args; simp_all
  obtain ⟨rfl, rfl⟩ := trodVars_none hV
  obtain ⟨a0, len0, cap0, rfl⟩ := okWide_slice Tryd.underlying24 (hval 0 24 v0 rfl rfl)
  have k0 := h0
  have lt0 : ∀ x ∈ p0, x.block < W.heap.size := by obtain ⟨m, hm⟩ := k0; exact DataW.trod_lt m _ _ _ hm
  obtain ⟨x0, w0, l0, m0, s0⟩ := tlvc.open_bys Tryd.underlying24 Tryd.underlying5 (by kernel_rfl) h0
  have r0 := tlvc.spots_reach hsz s0 (j := 0) rfl rfl Tryd.underlying24 (of_decide_eq_true (by kernel_rfl))
  obtain ⟨a1, rfl, rfl, rfl, w1⟩ := open_int Tryd.underlying3 (hval 1 3 v1 rfl rfl) h1
  obtain ⟨a2, len2, cap2, rfl⟩ := okWide_slice Tryd.underlying24 (hval 2 24 v2 rfl rfl)
  have k2 := h2
  have lt2 : ∀ x ∈ p2, x.block < W.heap.size := by obtain ⟨m, hm⟩ := k2; exact DataW.trod_lt m _ _ _ hm
  obtain ⟨x2, w2, l2, m2, s2⟩ := tlvc.open_bys Tryd.underlying24 Tryd.underlying5 (by kernel_rfl) h2
  have r2 := tlvc.spots_reach hsz s2 (j := 2) rfl rfl Tryd.underlying24 (of_decide_eq_true (by kernel_rfl))
  obtain ⟨a3, rfl, rfl, rfl, w3⟩ := open_int Tryd.underlying3 (hval 3 3 v3 rfl rfl) h3
  clear hA0 hval0
  have hT : txc.Tabs W := txc.tabs_of hL
  refine (walk a0 len0 cap0 x0 a1 a2 len2 cap2 x2 a3 W w0 l0 r0 w1 w2 l2 r2 w3 hT).mono fun e W' ⟨he, bel⟩ => ?_
  subst he
  exact ⟨_, rfl, _, _, _, [], _, [], hW', trodAll_mk1 (shut_bool Tryd.underlying4 _), (trodAll_cons_mk (Below.trod laidOut (by kernel_rfl) (of_decide_eq_true (by kernel_rfl)) k0 bel lt0) (trodAll_cons_mk (shut_int Tryd.underlying3 w1) (trodAll_cons_mk (Below.trod laidOut (by kernel_rfl) (of_decide_eq_true (by kernel_rfl)) k2 bel lt2) (trodAll_cons_mk (shut_int Tryd.underlying3 w3) trodAll_mk0)))), rfl, bel.frame _, fun h => by cases h⟩

theorem over : Rows.vaultMentionsRow.holds Tryd.pinned (OpenSpec.ofChange Rows.vaultMentionsSpec) :=
  OpenClaim.holds_of_cond 6 Tryd.f6 rfl rfl rfl rfl rfl rfl rfl ⟨rfl, rfl, rfl, rfl, rfl⟩ rfl rfl rfl rfl rfl (by kernel_rfl) Tryd.func6 (by kernel_rfl)
    (of_decide_eq_true (by kernel_rfl)) (by unfold Func.isWrapper; first | (rw [if_pos (by decide +kernel)]; kernel_rfl) | (rw [if_neg (by decide +kernel)]; exact ⟨rfl, rfl⟩))
    (fun os started H enc _ F => by rw [OpenClaim.pre_eq_preRow]; exact lifted os started H enc F)

theorem plain (f : FuncId) (fn : Func) (hf : Tryd.pinned.checked.prog.funcNamed "warder/warderlaw06.VaultMentions" = some f) (hfn : Tryd.pinned.checked.prog.funcs[f]? = some fn) :
    false = Tryd.pinned.checked.prog.looks [] ∧ ∀ (j : Nat) t, fn.params[j]? = some t → Tryd.pinned.checked.prog.wantsStandIn t = false := by
  obtain rfl : f = 6 := Option.some.inj ((show Tryd.prog.funcNamed "warder/warderlaw06.VaultMentions" = some 6 by kernel_rfl).symm.trans hf) |>.symm
  obtain rfl : fn = Tryd.f6 := (Option.some.inj (Tryd.func6.symm.trans hfn)).symm
  refine ⟨by kernel_rfl, fun j t ht => ?_⟩
  rw [Tryd.params6] at ht
  match j, ht with
    | 0, ht => obtain rfl : t = 24 := (Option.some.inj ht).symm; exact (show Tryd.prog.wantsStandIn 24 = false by kernel_rfl)
    | 1, ht => obtain rfl : t = 3 := (Option.some.inj ht).symm; exact (show Tryd.prog.wantsStandIn 3 = false by kernel_rfl)
    | 2, ht => obtain rfl : t = 24 := (Option.some.inj ht).symm; exact (show Tryd.prog.wantsStandIn 24 = false by kernel_rfl)
    | 3, ht => obtain rfl : t = 3 := (Option.some.inj ht).symm; exact (show Tryd.prog.wantsStandIn 3 = false by kernel_rfl)
    | j + 4, ht => simp at ht

theorem proved : Rows.VaultMentionsCardSaid :=
  Claim7.holds_tied_plain_at .later [] _ _ _ _ over (fun _ h => by cases h) (by kernel_rfl) (fun _ h => by cases h) vaultMentions_row_tie rfl ⟨rfl, rfl⟩ (by kernel_rfl) rfl plain (by kernel_rfl)
#print axioms proved
end Go.Proofs.YtfmdmahlljbbmaaDoor.vaultMentions
