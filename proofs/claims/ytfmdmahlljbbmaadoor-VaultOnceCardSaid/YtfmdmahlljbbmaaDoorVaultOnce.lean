/- The law VaultOnce of warderlaw06 answers true for every list of terms, and leaves its argument as it was; no condition. -/
import Derived.Test.YtfmdmahlljbbmaaDoorCards
import Derived.Test.YtfmdmahlljbbmaaDoorTie
import Derived.WalkKit
import Derived.ProofKit
import Derived.OpenShut
import Derived.ChangeOld
import Derived.Below
import Derived.SizedLaws
import Derived.Test.YtfmdmahlljbbmaaDoorTh
import Derived.Test.YtfmdmahlljbbmaaDoorVtTab
import Derived.Test.YtfmdmahlljbbmaaDoorVz
import Derived.Test.YtfmdmahlljbbmaaDoorVv
import Derived.Lib.QuietBelow
import Derived.BigQuiet
namespace Go.Proofs.YtfmdmahlljbbmaaDoor.vaultOnce
open Go.ChangeShapes Go.WideShapes Go.ChangeAt Go.RowKit
set_option linter.unusedVariables false

theorem own : ownKnob Tryd.prog.godebug = none := by kernel_rfl
theorem laidOut : laidOutB Tryd.prog = true := by kernel_rfl

open Go.Proofs.YtfmdmahlljbbmaaDoor.tlvc Go.Proofs.YtfmdmahlljbbmaaDoor.tmc Go.Proofs.YtfmdmahlljbbmaaDoor.vtc

set_option maxRecDepth 100000 in
set_option maxHeartbeats 32000000 in
theorem walk (a0 : Option Addr) (len0 cap0 : Nat) (x0 : List tmc.Tm) (w : World) (e0 : x0.length = len0) (w0 : tmc.Tms w a0 x0) (l0 : len0 ≤ cap0) (m0 : cap0 ≤ maxLen) (y0 : tmc.fitDs x0) (hT : txc.Tabs w) :
    Calls Tryd.prog 5 #[.slice a0 len0 cap0] w fun e w' => e = .returned (.bool true) ∧ Below w.heap.size w w' := by
  have HH := Lib.hid (head_any w hT)
  have HW0 := Lib.hid w0
  have HT := Lib.hid (show txc.Tab w.heap.size w from hT)
  have HE0 := Lib.hid e0
  have hm9 : cap0 ≤ 9223372036854775807 := by unfold maxLen at m0; omega
  clear hT w0 y0 e0 m0
  by_cases hl : len0 ≤ 100
  · have hlz : ¬ (100 : Int) < (len0 : Int) := by omega
    go_enter Tryd.func5, Tryd.ntmps5
    go_wp2_with (first | (go_at_call 12; refine HH.out.mono ?_; rintro e wa ⟨rfl, hba⟩; have HBA := Lib.hid hba; clear hba) | (go_at_call 13; refine (new_any wa).mono ?_; rintro e wv ⟨rfl, hV, hbv, hsv⟩; have HBV := Lib.hid (And.intro (hV.mono (S' := fun g => w.heap.size ≤ g) fun g hg => Nat.le_trans HBA.out.size hg) (blw HBA.out hbv)); clear hV hbv hsv))
    obtain ⟨vb, hvb⟩ : ∃ x, wa.heap.size + 1 = x := ⟨_, rfl⟩
    obtain ⟨mb, hmb⟩ : ∃ x, wa.heap.size = x := ⟨_, rfl⟩
    rw [hvb, hmb] at HBV
    rw [hvb]
    clear hvb hmb
    go_loopg [5, 6, 7, 8] (len0 + 1) (fun gk s5 s6 s7 s8 wx => ∃ (i : Nat) (A5 : Option Addr) (c5 : Nat) (ob : Option Nat) (L : List tmc.Tm) (Z : List Int), s5 = .slice A5 i c5 ∧ s6 = .int .i64 i ∧ i ≤ len0 ∧ len0 - i < gk ∧ Hid (ToldN x0 L Z i ∧ VN w vb mb ob L (.slice A5 i c5) i Z wx ∧ ∀ j, j < i → ∀ s, x0[j]? = some s → tmc.szT s ≤ 500))
    case atStart => exact ⟨0, none, 0, none, [], [], rfl, rfl, by omega, by omega, Lib.hid ⟨⟨rfl, fun j hj => by omega⟩, ⟨World.ownsRow_nil _ _ _ _, HBV.out.1.mono fun g hg => ⟨hg, fun h => by cases h⟩, HBV.out.2⟩, fun j hj => by omega⟩⟩
    case round =>
      obtain ⟨i, A5, c5, ob, L, Z, rfl, rfl, hi, hgk, HI⟩ := hrel
      by_cases hlt : i < len0
      · have hltz : (i : Int) < (len0 : Int) := by omega
        obtain ⟨gk', rfl⟩ : ∃ g', gk = g' + 1 := ⟨gk - 1, by omega⟩
        have HN := Lib.hid (And.intro (show i + 1 ≤ len0 from hlt) (show len0 - (i + 1) < gk' by omega))
        obtain ⟨t, ht⟩ : ∃ t, x0[i]? = some t := ⟨_, List.getElem?_eq_getElem (by rw [HE0.out]; exact hlt)⟩
        obtain ⟨g, off, to, tm, tA, tla, tca, tK, tlk, tck, rfl, hat⟩ := tms_at HW0.out ht
        have HAT := Lib.hid hat
        obtain ⟨e0, e1, e2, e3, hv⟩ := hat wr HI.out.2.1.bel
        have hp := parts_of _ t (Nat.le_refl _) (.agg #[.int .i64 to, .int .i64 tm, .slice tA tla tca, .slice tK tlk tck]) 500 wr hv (by omega) (by omega)
        have hpt := partsF_true _ t (Nat.le_refl _) 500 (by omega)
        have hpb := partsF_bd _ t (Nat.le_refl _) 500 (by omega)
        obtain ⟨p, hpp⟩ : ∃ x, partsF t 500 = x := ⟨_, rfl⟩
        rw [hpp] at hp hpt hpb
        have HP := Lib.hid hp
        have HTI := Lib.hid ht
        clear hp hpp hat hv hgk ht
        by_cases hbig : 500 < p
        · clear hpt
          go_wp2_with (go_at_call 14; refine HP.out.mono ?_; rintro e wp ⟨rfl, hbp⟩)
          go_ret
          exact ⟨rfl, blw HI.out.2.1.bel hbp⟩
        · have hsz : szT t ≤ 500 := by have := hpt (by omega); omega
          have HSZ := Lib.hid hsz
          obtain ⟨k, hk⟩ : ∃ x, (internV t L).1 = x := ⟨_, rfl⟩
          obtain ⟨ee, hee⟩ : ∃ x, (internV t L).2.1 = x := ⟨_, rfl⟩
          obtain ⟨L2, hL2⟩ : ∃ x, (internV t L).2.2 = x := ⟨_, rfl⟩
          have hin : internV t L = (k, ee, L2) := by rw [← hk, ← hee, ← hL2]
          have HINE := Lib.hid hin
          clear hpt hpb hsz hk hee hL2 hin
          go_wp2_with fail
          refine HP.out.mono ?_
          rintro e wp ⟨rfl, hbp⟩
          have HN1 := Lib.hid (HI.out.2.1.below hbp)
          clear e0 e1 e2 e3 hbp HP
          obtain ⟨e0, e1, e2, e3, hv⟩ := HAT.out wp HN1.out.bel
          have hin := HN1.out.intern hv HT.out (by have := HSZ.out; omega) HINE.out
          have HIN := Lib.hid hin
          clear hin hv
          go_wp2_with fail
          refine HIN.out.mono ?_
          rintro e wi ⟨ob2, rfl, hvn⟩
          have htold := told_step HI.out.1 HTI.out HINE.out HI.out.2.1.vlt.once HI.out.2.1.vlt.closed HI.out.2.1.vlt.right hvn.vlt.len
          obtain ⟨v7, w7, hrun, hvn2⟩ := hvn.num k htold.2.2 (by omega)
          obtain ⟨A7, c7, rfl, _⟩ := own_shape hvn2.row
          have hek := htold.2.1
          have hsm : ∀ j, j < i + 1 → ∀ s, x0[j]? = some s → szT s ≤ 500 := fun j hj s hs => by
            rcases Nat.lt_or_ge j i with h | h
            · exact HI.out.2.2 j h s hs
            · obtain rfl : j = i := by omega
              rw [HTI.out] at hs
              cases hs
              exact HSZ.out
          have HNEXT := Lib.hid (And.intro htold.1 (And.intro hvn2 hsm))
          clear htold hvn2 hsm hvn e0 e1 e2 e3 HIN HINE HI HTI
          by_cases he : ee = 0
          · subst he
            clear hek
            go_wp2_with (at_builtin; refine wpl_append rfl (.tmp 57) (.tmp 59) 48 rfl _ _ _ rfl rfl hrun ?_)
            clear hrun
            go_wp2
            go_roundg gk'
            case measure => omega
            case rel => exact ⟨i + 1, A7, c7, ob2, L2, _, rfl, by go_num, HN.out.1, HN.out.2, HNEXT⟩
          · have hk := hek he
            subst hk
            have heb : (ee != 0) = true := by simpa using he
            clear hek
            go_wp2_with (at_builtin; refine wpl_append rfl (.tmp 57) (.tmp 59) 48 rfl _ _ _ rfl rfl hrun ?_)
            clear hrun
            go_wp2
            go_roundg gk'
            case measure => omega
            case rel => exact ⟨i + 1, A7, c7, ob2, L2, _, rfl, by go_num, HN.out.1, HN.out.2, HNEXT⟩
      · obtain rfl : len0 = i := by omega
        have hltz : ¬ (len0 : Int) < (len0 : Int) := by omega
        obtain ⟨w2, hw2⟩ : ∃ x, x = wr := ⟨_, rfl⟩
        subst hw2
        have hins : Ins w2 A5 len0 Z := Ins.own HI.out.2.1.row (told_fit HI.out.1)
        obtain ⟨_, _, e5, hl5, hm5, _⟩ := own_shape HI.out.2.1.row
        cases e5
        have hm59 : c5 ≤ 9223372036854775807 := by unfold maxLen at hm5; omega
        have HTD := Lib.hid HI.out.1
        have HVL := Lib.hid (And.intro HI.out.2.1.vlt HI.out.2.1.bel)
        have HSM := Lib.hid HI.out.2.2
        have HINS := Lib.hid hins
        clear hins hm5 HI hgk hlt
        go_wp2_with fail
        go_loopg [9, 10, 11, 12, 13, 14, 15] (len0 + 1) (fun gk s9 s10 s11 s12 s13 s14 s15 wx => ∃ (i : Nat), s9 = .int .i64 i ∧ i ≤ len0 ∧ len0 - i < gk ∧ Hid (Below w2.heap.size w2 wx))
        case atStart => exact ⟨0, rfl, by omega, by omega, Lib.hid (Below.refl _ _)⟩
        case round =>
          obtain ⟨i, rfl, hi, hgk, HW⟩ := hrel
          obtain ⟨wo, hwo⟩ : ∃ x, x = wr := ⟨_, rfl⟩
          subst hwo
          by_cases hlt : i < len0
          · clear hltz
            have hltz : (i : Int) < (len0 : Int) := by omega
            obtain ⟨gk', rfl⟩ : ∃ g', gk = g' + 1 := ⟨gk - 1, by omega⟩
            have HN := Lib.hid (And.intro (show i + 1 ≤ len0 from hlt) (show len0 - (i + 1) < gk' by omega))
            obtain ⟨b5, o5, rfl, hb5l, hc5⟩ := HINS.out.2.2 (by omega)
            have hnum : ∀ j, j < len0 → ∀ W, Below w2.heap.size w2 W → W.cell? ⟨b5, o5 + j, none⟩ = some (.int .i64 (Z.getD j 0)) := fun j hj W hW => (hW.cell (p := ⟨b5, o5 + j, none⟩) hb5l).trans (hc5 j hj)
            have HNUM := Lib.hid hnum
            have n0 := hnum i hlt wo HW.out
            have htd := HTD.out.2 i hlt
            clear hc5 hnum hgk
            rcases htd with hneg | ⟨n, hn, hn4, hL⟩
            · rw [hneg] at n0
              go_wp2
              go_roundg gk'
              case measure => omega
              case rel => exact ⟨i + 1, by go_num, HN.out.1, HN.out.2, HW⟩
            · rw [hn] at n0
              obtain ⟨t, ht⟩ : ∃ t, x0[i]? = some t := ⟨_, List.getElem?_eq_getElem (by rw [HE0.out]; exact hlt)⟩
              rw [ht] at hL
              obtain ⟨zo, zm, zd, zks⟩ := t
              obtain ⟨g, off, to, tm, tA, tla, tca, tK, tlk, tck, rfl, hat⟩ := tms_at HW0.out ht
              have hsz := HSM.out i hlt _ ht
              have hV := (HVL.out.1.below HW.out)
              have hterm := term_yes _ vb mb ob L n _ wo hV hL (by omega)
              have HAT := Lib.hid hat
              have HTERM := Lib.hid hterm
              have HL := Lib.hid hL
              have HSZ := Lib.hid hsz
              have HTI := Lib.hid ht
              have HNI := Lib.hid hn
              clear hat hterm hL hsz ht hV hn
              go_wp2_with fail
              refine HTERM.out.mono ?_
              rintro e wt ⟨v1, rfl, ⟨y0, y1, y2, y3, rfl, hy⟩, hb1⟩
              obtain ⟨uo, um, uA, ula, uca, uK, ulk, uck, rfl, rfl, rfl, rfl⟩ := hy.shape
              obtain ⟨W5, hW5, hb5, pb5⟩ := own_term (wt := wt) (.int .i64 uo) (.int .i64 um) (.slice uA ula uca) (.slice uK ulk uck)
              have hB5 := blw (blw HW.out hb1) hb5
              have HT5 := Lib.hid (And.intro (TmC.below hb5 _ _ _ _ _ hy) (And.intro hB5 pb5))
              have HW5 := Lib.hid hW5
              clear hy hb1 hb5 pb5 hB5 hW5 HTERM
              go_wp2_with fail
              rw [HW5.out]
              clear n0
              have hbx := fun (q : Nat) (os : Array Obj) => boxT (below_regrown W5 q os) HT5.out.2.2
              have hel := fun (q : Nat) (os : Array Obj) => HAT.out _ (blw HVL.out.2 (blw HT5.out.2.1 (below_regrown W5 q os)))
              have bx0 := fun q os => (hbx q os).1
              have bx1 := fun q os => (hbx q os).2.1
              have bx2 := fun q os => (hbx q os).2.2.1
              have bx3 := fun q os => (hbx q os).2.2.2
              have e0 := fun q os => (hel q os).1
              have e1 := fun q os => (hel q os).2.1
              have e2 := fun q os => (hel q os).2.2.1
              have e3 := fun q os => (hel q os).2.2.2.1
              have hsame := fun (q : Nat) (os : Array Obj) => tsame_any (.mk zo zm zd zks) (.mk zo zm zd zks) _ _ (.agg #[.int .i64 uo, .int .i64 um, .slice uA ula uca, .slice uK ulk uck]) (.agg #[.int .i64 to, .int .i64 tm, .slice tA tla tca, .slice tK tlk tck]) (Sort.grow (redrawn W5 q) os) ⟨_, _, _, _, rfl, TmC.below (below_regrown W5 q os) _ _ _ _ _ HT5.out.1⟩ (hel q os).2.2.2.2
              have hal : alikeB (.mk zo zm zd zks) (.mk zo zm zd zks) = true := alike_iff.2 rfl
              rw [hal] at hsame
              have HSAME := Lib.hid hsame
              clear hbx hel hsame hal
              refine wp_region_quiet_below (by kernel_rfl) (by kernel_rfl) ?_
              repeat (go_big_quiet_step ((go_at_call 23; refine Calls.regrown_of (HSAME.out _ _))))
              refine wpQuiet_nil ?_
              intro _ hw'
              obtain ⟨⟨nq, osq⟩, hw''⟩ := hw'
              subst hw''
              obtain ⟨W6, hW6⟩ : ∃ x, Sort.grow (redrawn W5 nq) osq = x := ⟨_, rfl⟩
              have hb6 : Below W5.heap.size W5 W6 := by rw [← hW6]; exact below_regrown W5 nq osq
              rw [hW6]
              have HT6 := Lib.hid (And.intro (TmC.below hb6 _ _ _ _ _ HT5.out.1) (And.intro (blw HT5.out.2.1 hb6) ((hb6.block _ (Array.getElem?_eq_some_iff.1 HT5.out.2.2).1).trans HT5.out.2.2)))
              clear bx0 bx1 bx2 bx3 e0 e1 e2 e3 hb6 hW6 HSAME HT5 HW5
              go_wp2_with fail
              go_loopg [12, 13, 14] (ulk + 1) (fun gk s12 s13 s14 wx => ∃ (k : Nat), s12 = .int .i64 k ∧ k ≤ ulk ∧ ulk - k < gk ∧ Hid (Below W6.heap.size W6 wx))
              case atStart => exact ⟨0, rfl, by omega, by omega, Lib.hid (Below.refl _ _)⟩
              case round =>
                obtain ⟨k, rfl, hk, hgk, HX⟩ := hrel
                obtain ⟨wk, hwk⟩ : ∃ x, x = wr := ⟨_, rfl⟩
                subst hwk
                obtain ⟨bx0, bx1, bx2, bx3⟩ := boxT HX.out HT6.out.2.2
                obtain ⟨hkl, hkc, hkc9, hkk⟩ := kidv (TmC.below HX.out _ _ _ _ _ HT6.out.1)
                have hbk := blw HT6.out.2.1 HX.out
                have HBK := Lib.hid hbk
                by_cases hk2 : k < ulk
                · have hk2z : (k : Int) < (ulk : Int) := by omega
                  obtain ⟨gj', rfl⟩ : ∃ g', gk = g' + 1 := ⟨gk - 1, by omega⟩
                  have HM := Lib.hid (And.intro (show k + 1 ≤ ulk from hk2) (show ulk - (k + 1) < gj' by omega))
                  obtain ⟨kk, gg, kof, q0, q1, q2, q3, hki, rfl, a0, a1, a2, a3, hd⟩ := hkk k hk2
                  obtain ⟨ko, km, kA, kla, kca, kK, klk, kck, rfl, rfl, rfl, rfl⟩ := hd.shape
                  have hmem := List.mem_of_getElem? hki
                  obtain ⟨j, hj, hjn⟩ := kid_found HVL.out.1.once HVL.out.1.closed HL.out hmem
                  have hks := szTs_mem hmem
                  have hszm := szT_kids zo zm zd zks
                  have hsz5 := HSZ.out
                  have hfind := find_any _ _ vb mb ob L kk (.agg #[.int .i64 ko, .int .i64 km, .slice kA kla kca, .slice kK klk kck]) wk (HVL.out.1.below hbk) ⟨_, _, _, _, rfl, hd⟩ ((HT.out.on (blw HVL.out.2 hbk)).mono (blw HVL.out.2 hbk).size) (by omega)
                  rw [numI_some hj, hj] at hfind
                  have HFIND := Lib.hid hfind
                  have hjz : ¬ (n : Int) ≤ (j : Int) := by omega
                  have hj0 : ¬ (j : Int) < 0 := by omega
                  clear hfind hd hmem hj hks hszm hsz5 hkk hki hkl hbk hgk
                  go_wp2_with (go_at_call 19; refine HFIND.out.mono ?_; rintro e wf ⟨rfl, hbf⟩; have n0 := HNUM.out i hlt wf (blw HBK.out hbf); rw [HNI.out] at n0; have HX2 := Lib.hid (blw HX.out hbf); clear hbf)
                  clear a0 a1 a2 a3 bx0 bx1 bx2 bx3 n0 HFIND
                  go_wp2
                  go_roundg gj'
                  case measure => omega
                  case rel => exact ⟨k + 1, by go_num, HM.out.1, HM.out.2, HX2⟩
                · obtain rfl : ulk = k := by omega
                  have hk2z : ¬ (ulk : Int) < (ulk : Int) := by omega
                  clear hkk hkl hbk hgk
                  go_wp2_with fail
                  clear bx0 bx1 bx2 bx3
                  go_loopg [15] (i + 1) (fun gk s15 wx => ∃ (q : Nat), s15 = .int .i64 q ∧ q ≤ i ∧ i - q < gk ∧ Hid (Below wk.heap.size wk wx))
                  case atStart => exact ⟨0, rfl, by omega, by omega, Lib.hid (Below.refl _ _)⟩
                  case round =>
                    obtain ⟨q, rfl, hq, hgk, HY⟩ := hrel
                    obtain ⟨wq, hwq⟩ : ∃ x, x = wr := ⟨_, rfl⟩
                    subst hwq
                    have HBQ := Lib.hid (blw HBK.out HY.out)
                    by_cases hqi : q < i
                    · have hqz : (q : Int) < (i : Int) := by omega
                      obtain ⟨gj', rfl⟩ : ∃ g', gk = g' + 1 := ⟨gk - 1, by omega⟩
                      have HM := Lib.hid (And.intro (show q + 1 ≤ i from hqi) (show i - (q + 1) < gj' by omega))
                      have hql : q < len0 := by omega
                      have hqlz : (q : Int) < (len0 : Int) := by omega
                      have nq := fun (d : Nat) (os : Array Obj) => HNUM.out q hql _ (blw HBQ.out (below_regrown wq d os))
                      have ni := fun (d : Nat) (os : Array Obj) => HNUM.out i hlt _ (blw HBQ.out (below_regrown wq d os))
                      rw [HNI.out] at ni
                      rcases HTD.out.2 q hql with hneg | ⟨n2, hn2, _, hL2⟩
                      · rw [hneg] at nq
                        have hd0 : decide ((0 : Int) ≤ -1) = false := rfl
                        clear hneg hgk
                        go_wp2
                        refine wp_region_quiet_below (by kernel_rfl) (by kernel_rfl) ?_
                        repeat (go_big_quiet_step ((fail)))
                        refine wpQuiet_nil ?_
                        intro _ hw'
                        obtain ⟨⟨nq', osq⟩, hw''⟩ := hw'
                        subst hw''
                        have HY2 := Lib.hid (blw HY.out (below_regrown wq nq' osq))
                        clear nq ni
                        go_wp2
                        go_roundg gj'
                        case measure => omega
                        case rel => exact ⟨q + 1, by go_num, HM.out.1, HM.out.2, HY2⟩
                      · rw [hn2] at nq
                        obtain ⟨s, hs⟩ : ∃ s, x0[q]? = some s := ⟨_, List.getElem?_eq_getElem (by rw [HE0.out]; exact hql)⟩
                        rw [hs] at hL2
                        obtain ⟨g', off', so, sm, sA, sla, sca, sK, slk, sck, hge, has⟩ := tms_at HW0.out hs
                        cases hge
                        have hes := fun (d : Nat) (os : Array Obj) => has _ (blw HVL.out.2 (blw HBQ.out (below_regrown wq d os)))
                        have hel := fun (d : Nat) (os : Array Obj) => HAT.out _ (blw HVL.out.2 (blw HBQ.out (below_regrown wq d os)))
                        have e0 := fun d os => (hel d os).1
                        have e1 := fun d os => (hel d os).2.1
                        have e2 := fun d os => (hel d os).2.2.1
                        have e3 := fun d os => (hel d os).2.2.2.1
                        have i0 := fun d os => (hes d os).1
                        have i1 := fun d os => (hes d os).2.1
                        have i2 := fun d os => (hes d os).2.2.1
                        have i3 := fun d os => (hes d os).2.2.2.1
                        have hsame := fun (d : Nat) (os : Array Obj) => tsame_any s (.mk zo zm zd zks) _ _ (.agg #[.int .i64 so, .int .i64 sm, .slice sA sla sca, .slice sK slk sck]) (.agg #[.int .i64 to, .int .i64 tm, .slice tA tla tca, .slice tK tlk tck]) (Sort.grow (redrawn wq d) os) (hes d os).2.2.2.2 (hel d os).2.2.2.2
                        rw [same_nums HVL.out.1.once hL2 HL.out] at hsame
                        have hd0 : decide ((0 : Int) ≤ (n2 : Int)) = true := decide_eq_true (by omega)
                        have hd1 : (0 : Int) ≤ (n2 : Int) := by omega
                        clear hel hes has hs hL2 hn2 hgk
                        by_cases hnn : n2 = n
                        · subst hnn
                          rw [decide_eq_true (rfl : n2 = n2)] at hsame
                          have HSAME := Lib.hid hsame
                          clear hsame
                          go_wp2
                          refine wp_region_quiet_below (by kernel_rfl) (by kernel_rfl) ?_
                          repeat (go_big_quiet_step ((go_at_call 23; refine Calls.regrown_of (HSAME.out _ _))))
                          refine wpQuiet_nil ?_
                          intro _ hw'
                          obtain ⟨⟨nq', osq⟩, hw''⟩ := hw'
                          subst hw''
                          have HY2 := Lib.hid (blw HY.out (below_regrown wq nq' osq))
                          clear nq ni e0 e1 e2 e3 i0 i1 i2 i3 HSAME
                          go_wp2
                          go_roundg gj'
                          case measure => omega
                          case rel => exact ⟨q + 1, by go_num, HM.out.1, HM.out.2, HY2⟩
                        · have hnb : ((n2 : Int) == (n : Int)) = false := by rw [beq_eq_false_iff_ne]; omega
                          rw [decide_eq_false hnn] at hsame
                          have HSAME := Lib.hid hsame
                          clear hsame
                          go_wp2
                          refine wp_region_quiet_below (by kernel_rfl) (by kernel_rfl) ?_
                          repeat (go_big_quiet_step ((go_at_call 23; refine Calls.regrown_of (HSAME.out _ _))))
                          refine wpQuiet_nil ?_
                          intro _ hw'
                          obtain ⟨⟨nq', osq⟩, hw''⟩ := hw'
                          subst hw''
                          have HY2 := Lib.hid (blw HY.out (below_regrown wq nq' osq))
                          clear nq ni e0 e1 e2 e3 i0 i1 i2 i3 HSAME
                          go_wp2
                          go_roundg gj'
                          case measure => omega
                          case rel => exact ⟨q + 1, by go_num, HM.out.1, HM.out.2, HY2⟩
                    · obtain rfl : i = q := by omega
                      have hqz : ¬ (i : Int) < (i : Int) := by omega
                      have HEND := HBQ
                      clear hgk HY
                      go_wp2
                      go_roundg gk'
                      case measure => omega
                      case rel => exact ⟨i + 1, by go_num, HN.out.1, HN.out.2, HEND⟩
          · obtain rfl : len0 = i := by omega
            have HEND := Lib.hid (blw HVL.out.2 HW.out)
            clear hgk HW
            go_wp2
            go_ret
            exact ⟨rfl, HEND.out⟩
  · have hlz : (100 : Int) < (len0 : Int) := by omega
    go_enter Tryd.func5, Tryd.ntmps5
    go_wp2_with (first | (go_at_call 12; refine HH.out.mono ?_; rintro e wa ⟨rfl, hba⟩; have HBA := Lib.hid hba; clear hba) | (go_at_call 13; refine (new_any wa).mono ?_; rintro e wv ⟨rfl, hV, hbv, hsv⟩; have HBV := Lib.hid (blw HBA.out hbv); clear hV hbv hsv))
    go_ret
    exact ⟨rfl, HBV.out⟩

theorem reads (os : Os) {H : Type} (enc : TypeId × Value → H) : ∃ places, DataW.whole enc Tryd.prog ((txc.laidWorld os).forCall (fun _ _ => 0) ⟨#[], #[.slice none 0 0], []⟩).memory Tryd.f5.params.toList Rows.vaultOnceSpec.vars false (#[.slice none 0 0] : Array Value).toList 8 = some ([.nil], [], places) :=
  ⟨[], by kernel_rfl⟩
set_option maxRecDepth 100000 in
theorem lifted (os : Os) (started : os.Started) (H : Type) (enc : TypeId × Value → H) (F : Stop.Interp) :
    ReturnsInHanded {} Tryd.checked os 5 .any ((OpenSpec.ofChange Rows.vaultOnceSpec).preRow enc Tryd.prog Tryd.f5 Rows.vaultOnceRow.domain false Rows.vaultOnceRow.laid) (((OpenSpec.ofChange Rows.vaultOnceSpec).at F).post enc Tryd.prog Tryd.f5 false true false false) := by
  obtain ⟨places, hx⟩ := reads os enc
  refine returnsInHanded_of_row (C := Tryd.checked) (s := (OpenSpec.ofChange Rows.vaultOnceSpec)) own started (by kernel_rfl) Tryd.func5
    (witness_row_at (enc := enc) (C := Tryd.checked) false (txc.laidWorld os) #[.slice none 0 0] rfl (by kernel_rfl) (by kernel_rfl) (by kernel_rfl)
      (OpenSpec.preRow_of_cond 8 hx (by kernel_rfl) (fun k hk => by cases hk) (by kernel_rfl) (txc.laid_met os _))) ?_
  intro W base args ds gs before hval0 hW hcnd hcond hsz0 hL _ _
  have hval : ∀ (j : Nat) t v, Tryd.f5.params[j]? = some t → args[j]? = some v → Value.okWide Tryd.prog W .any base t v := hval0
  have hW' := hW
  obtain ⟨p, q, hA0, hV, rfl, hfz, hnd⟩ := hW
  have hA : DataW.TrodAll enc Tryd.prog W 0 (fun _ => true) true Tryd.f5.params.toList args.toList ds p := hA0
  have hsz : (DataW.weightsEach Tryd.prog (Tryd.f5.params.toList ++ (OpenSpec.ofChange Rows.vaultOnceSpec).bare.plain.varTypes Tryd.prog) (ds ++ gs)).all (· ≤ reachBytes) = true := hsz0
  rw [Tryd.params5] at hA hval hsz
  obtain ⟨v0, vs0, d0, ds0, p0, q0, hargs, rfl, rfl, h0, r_0⟩ := trodAll_cons hA
  obtain ⟨rfl, rfl, rfl⟩ := trodAll_nil r_0
  obtain rfl : args = #[v0] := by cases args; simp_all
  obtain ⟨rfl, rfl⟩ := trodVars_none hV
  obtain ⟨a0, len0, cap0, rfl⟩ := okWide_slice Tryd.underlying22 (hval 0 22 v0 rfl rfl)
  have k0 := h0
  have lt0 : ∀ x ∈ p0, x.block < W.heap.size := by obtain ⟨m, hm⟩ := k0; exact DataW.trod_lt m _ _ _ hm
  obtain ⟨x0, e0, w0, l0, m0, z0⟩ := tmc.open_tms ({ U := _, f0 := _, f1 := _, f2 := _, f3 := _, hT := Tryd.underlying26, hone := by kernel_rfl, hC := by kernel_rfl, e0 := Tryd.underlying23, e1 := Tryd.underlying2, e2 := Tryd.underlying24, eU := Tryd.underlying5, cU := by kernel_rfl, bU := by kernel_rfl, e3 := Tryd.underlying22 }) Tryd.underlying22 h0
  have y0 := z0 (tmc.each_fit hsz (j := 0) rfl rfl)
  clear hA0 hval0
  have hT : txc.Tabs W := txc.tabs_of hL
  refine (walk a0 len0 cap0 x0 W e0 w0 l0 m0 y0 hT).mono fun e W' ⟨he, bel⟩ => ?_
  subst he
  exact ⟨_, rfl, _, _, _, [], _, [], hW', trodAll_mk1 (shut_bool Tryd.underlying4 _), (trodAll_cons_mk (Below.trod laidOut (by kernel_rfl) (of_decide_eq_true (by kernel_rfl)) k0 bel lt0) trodAll_mk0), rfl, bel.frame _, fun h => by cases h⟩

theorem over : Rows.vaultOnceRow.holds Tryd.pinned (OpenSpec.ofChange Rows.vaultOnceSpec) :=
  OpenClaim.holds_of_cond 5 Tryd.f5 rfl rfl rfl rfl rfl rfl rfl ⟨rfl, rfl, rfl, rfl, rfl⟩ rfl rfl rfl rfl rfl (by kernel_rfl) Tryd.func5 (by kernel_rfl)
    (of_decide_eq_true (by kernel_rfl)) (by unfold Func.isWrapper; first | (rw [if_pos (by decide +kernel)]; kernel_rfl) | (rw [if_neg (by decide +kernel)]; exact ⟨rfl, rfl⟩))
    (fun os started H enc _ F => by rw [OpenClaim.pre_eq_preRow]; exact lifted os started H enc F)

theorem plain (f : FuncId) (fn : Func) (hf : Tryd.pinned.checked.prog.funcNamed "warder/warderlaw06.VaultOnce" = some f) (hfn : Tryd.pinned.checked.prog.funcs[f]? = some fn) :
    false = Tryd.pinned.checked.prog.looks [] ∧ ∀ (j : Nat) t, fn.params[j]? = some t → Tryd.pinned.checked.prog.wantsStandIn t = false := by
  obtain rfl : f = 5 := Option.some.inj ((show Tryd.prog.funcNamed "warder/warderlaw06.VaultOnce" = some 5 by kernel_rfl).symm.trans hf) |>.symm
  obtain rfl : fn = Tryd.f5 := (Option.some.inj (Tryd.func5.symm.trans hfn)).symm
  refine ⟨by kernel_rfl, fun j t ht => ?_⟩
  rw [Tryd.params5] at ht
  match j, ht with
    | 0, ht => obtain rfl : t = 22 := (Option.some.inj ht).symm; exact (show Tryd.prog.wantsStandIn 22 = false by kernel_rfl)
    | j + 1, ht => simp at ht

theorem proved : Rows.VaultOnceCardSaid :=
  Claim7.holds_tied_plain_at .later [] _ _ _ _ over (fun _ h => by cases h) (by kernel_rfl) (fun _ h => by cases h) vaultOnce_row_tie rfl ⟨rfl, rfl⟩ (by kernel_rfl) rfl plain (by kernel_rfl)
#print axioms proved
end Go.Proofs.YtfmdmahlljbbmaaDoor.vaultOnce
