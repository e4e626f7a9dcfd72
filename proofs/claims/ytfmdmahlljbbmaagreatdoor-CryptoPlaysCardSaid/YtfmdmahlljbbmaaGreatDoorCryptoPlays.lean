/- The law CryptoPlays of warderlaw07 answers true for every list of terms and every list of calls, and leaves its arguments as they were; no condition. -/
import Derived.Test.YtfmdmahlljbbmaaGreatDoorCards
import Derived.Test.YtfmdmahlljbbmaaGreatDoorTie
import Derived.WalkKit
import Derived.ProofKit
import Derived.OpenShut
import Derived.ChangeOld
import Derived.Below
import Derived.SizedLaws
import Derived.Test.YtfmdmahlljbbmaaGreatDoorTh
import Derived.Test.YtfmdmahlljbbmaaGreatDoorVtTab
import Derived.Test.YtfmdmahlljbbmaaGreatDoorDo
import Derived.Test.YtfmdmahlljbbmaaGreatDoorCk
import Derived.Deep.DeepCutAuto
import Derived.Deep.CutBlock
import Derived.Lib.QuietBelow
import Derived.BigQuiet
namespace Go.Proofs.YtfmdmahlljbbmaaGreatDoor.cryptoPlays
open Go.ChangeShapes Go.WideShapes Go.ChangeAt Go.RowKit
set_option linter.unusedVariables false

theorem own : ownKnob Tryz.prog.godebug = none := by kernel_rfl
theorem laidOut : laidOutB Tryz.prog = true := by kernel_rfl

open Go.Proofs.YtfmdmahlljbbmaaGreatDoor.tlvc Go.Proofs.YtfmdmahlljbbmaaGreatDoor.tmc Go.Proofs.YtfmdmahlljbbmaaGreatDoor.vtc

set_option maxRecDepth 100000 in
set_option maxHeartbeats 200000000 in
theorem walk (a0 : Option Addr) (len0 cap0 : Nat) (x0 : List tmc.Tm) (a1 : Option Addr) (len1 cap1 : Nat) (x1 : List dtc.Dt) (w : World) (e0 : x0.length = len0) (w0 : tmc.Tms w a0 x0) (l0 : len0 ≤ cap0) (m0 : cap0 ≤ maxLen) (y0 : tmc.fitDs x0) (e1 : x1.length = len1) (s1 : ∀ x ∈ x1, dtc.IsSh (.agg [.int .i64, .int .i64, .int .i64, .int .i64, .bys]) x) (w1 : 0 < len1 → ∃ g off, a1 = some ⟨g, off, none⟩ ∧ g < w.heap.size ∧ dtc.LiesRow (fun _ => True) w g (dtc.Sh.sz (.agg [.int .i64, .int .i64, .int .i64, .int .i64, .bys])) off x1) (l1 : len1 ≤ cap1) (m1 : cap1 ≤ maxLen) (y1 : dtc.fitDts x1) (hT : txc.Tabs w) :
    Calls Tryz.prog 3 #[.slice a0 len0 cap0, .slice a1 len1 cap1] w fun e w' => e = .returned (.bool true) ∧ Below w.heap.size w w' := by
  have hm9 : cap1 ≤ 9223372036854775807 := by unfold maxLen at m1; omega
  have HT := Lib.hid (show txc.Tab w.heap.size w from hT)
  have HH := Lib.hid (head7_any w hT)
  have HBO := Lib.hid fun (W : World) (hb : Below w.heap.size w W) => both_any a0 len0 cap0 x0 W e0 (tms_below w0 hb) l0 m0 ((hT.on hb).mono hb.size)
  have HOP := Lib.hid fun (i : Nat) (hi : i < len1) => op_at (w := w) s1 w1 e1 y1 hi
  clear w0 y0 e0 m0 hT e1 s1 w1 y1 m1
  go_enter Tryz.func3, Tryz.ntmps3
  go_wp2_with fail
  refine HH.out.mono ?_
  rintro e wa ⟨rfl, hba⟩
  have HBA := Lib.hid hba
  have HB2 := Lib.hid (HBO.out wa hba)
  clear hba HBO HH
  go_wp2_with fail
  refine HB2.out.mono ?_
  rintro e wb (⟨rfl, hbb⟩ | ⟨vb, mb, ob, rb, od, L, rfl, htw, hsz⟩)
  · have HE := Lib.hid (blw HBA.out hbb)
    clear hbb
    go_wp2
    go_ret
    exact ⟨rfl, HE.out⟩
  · by_cases hlen : len1 ≤ 300
    · have hlz : ¬ (300 : Int) < (len1 : Int) := by omega
      have HTA := Lib.hid (show txc.Tab wa.heap.size wa from (HT.out.on HBA.out).mono HBA.out.size)
      have HTV := Lib.hid (And.intro htw.wide hsz)
      clear htw hsz HB2
      go_wp2_with fail
      go_loopg [9] (len1 + 1) (fun gk s9 wx => ∃ (i : Nat) (ob od : Option Nat) (Q : Nat → Prop) (L : List tmc.Tm), s9 = .int .i64 i ∧ i ≤ len1 ∧ len1 - i < gk ∧ Hid (TV wa Q (fun _ => False) vb mb ob rb od L L wx ∧ ∀ t ∈ L, tmc.szT t ≤ 4096))
      case atStart => exact ⟨0, ob, od, _, L, rfl, by omega, by omega, HTV⟩
      case round =>
        clear HTV
        obtain ⟨i, ob, od, Q, L, rfl, hi, hgk, HI⟩ := hrel
        by_cases hlt : i < len1
        · have hltz : (i : Int) < (len1 : Int) := by omega
          obtain ⟨gk', rfl⟩ : ∃ g', gk = g' + 1 := ⟨gk - 1, by omega⟩
          have HN := Lib.hid (And.intro (show i + 1 ≤ len1 from hlt) (show len1 - (i + 1) < gk' by omega))
          obtain ⟨g, off, what, A, B, num, D, la, ca, msg, rfl, hii, hle, hcm, hla, hD, hat⟩ := HOP.out i hlt
          have HAT := Lib.hid (And.intro hii (And.intro hle (And.intro hcm (And.intro hla (And.intro hD hat)))))
          obtain ⟨⟨q0, q1, q2, q3, q4⟩, _⟩ := hat wr (blw HBA.out HI.out.1.bel)
          obtain ⟨W5, hW5⟩ : ∃ x, wr.alloc (.cells #[.int .i64 what, .int .i64 A, .int .i64 B, .int .i64 num, .slice D la ca] 31) = x := ⟨_, rfl⟩
          have hb5 : Below wr.heap.size wr W5 := by rw [← hW5]; exact below_new _ _
          have pb5 : W5.heap[wr.heap.size]? = some (.cells #[.int .i64 what, .int .i64 A, .int .i64 B, .int .i64 num, .slice D la ca] 31) := by rw [← hW5]; exact heap_new_ _ _
          obtain ⟨bx, hbx⟩ : ∃ x, wr.heap.size = x := ⟨_, rfl⟩
          have htv5 := HI.out.1.fresh (fun g => g = bx) (fun g hg => by omega) hb5
          have hXb : ∀ g, g = bx → g < W5.heap.size := fun g hg => by rw [hg, ← hbx]; exact (Array.getElem?_eq_some_iff.1 pb5).1
          rw [hbx] at pb5
          obtain ⟨c0, c1, c2, c3, c4⟩ := box5 (Below.refl _ _) pb5
          have H5 := Lib.hid (And.intro htv5 (And.intro hXb (And.intro pb5 HI.out.2)))
          have HW5 := Lib.hid hW5
          obtain ⟨r, hr⟩ : ∃ r, Int.tmod what 10 = r := ⟨_, rfl⟩
          rw [← hW5] at c0 c1 c2 c3 c4
          clear hii hle hcm hla hD hat hb5 pb5 htv5 hXb hgk hW5
          go_upto_block 2 with fail
          rw [HW5.out] at c0 c1 c2 c3 c4 ⊢
          go_cut [11, 12, 13, 14, 15] (fun s11 s12 s13 s14 s15 wx => ∃ (k e : Int) (ob2 od2 : Option Nat) (Q2 : Nat → Prop) (L2 : List tmc.Tm), s11 = .int .i64 k ∧ s12 = .int .i64 k ∧ s13 = .int .i64 e ∧ s14 = .int .i64 e ∧ s15 = .bool true ∧ Hid (TV wa Q2 (fun _ => False) vb mb ob2 rb od2 L2 L2 wx ∧ ∀ t ∈ L2, tmc.szT t ≤ 4096))
          case first =>
            by_cases hr0 : r = 0
            · as_aux_lemma =>
                subst hr0
                clear hr
                obtain ⟨k, ee, L2, hin⟩ : ∃ k ee L2, internV (.mk 1 num [] []) L = (k, ee, L2) := ⟨_, _, _, rfl⟩
                obtain ⟨⟨iw, iA, iB, iN⟩, hle, hcm, hla, hD, hat⟩ := HAT.out
                obtain ⟨htv, hX, hpb, hsz⟩ := H5.out
                have hby5 := (hat W5 (blw HBA.out htv.bel)).2
                have HG := Lib.hid (show vtc.Good L2 from by have hg := (good_intern (htv.good hsz) (.mk 1 num [] [])).1; rw [hin] at hg; exact hg)
                have HC1 := Lib.hid (htv.did hX (atom_any (htv.vok HTA.out hsz) num iN) hin)
                have HIN := Lib.hid hin
                clear htv hX hpb hsz hby5 hin hat iw iA iB iN hle hcm hla hD
                go_wp2_with fail
                refine HC1.out.mono ?_
                rintro en w6 ⟨ob2, rfl, htv6, hs6, hk6⟩
                obtain ⟨⟨iw, iA, iB, iN⟩, hle, hcm, hla, hD, hat⟩ := HAT.out
                have pb6 := (hk6 bx rfl).trans H5.out.2.2.1
                have hby6 := (hat w6 (blw HBA.out htv6.bel)).2
                have HC2 := Lib.hid (htv6.rdid (fun g hg => Nat.lt_of_lt_of_le (H5.out.2.1 g hg) hs6) (ratom_any (htv6.rok H5.out.2.2.2) num iN) HIN.out)
                clear c0 c1 c2 c3 c4
                obtain ⟨c0, c1, c2, c3, c4⟩ := box5 (Below.refl _ _) pb6
                clear HC1 htv6 hs6 hk6 pb6 hby6 hat iw iA iB iN hle hcm hla hD HIN
                go_wp2_with fail
                refine HC2.out.mono ?_
                rintro en w7 ⟨od2, Q2, rfl, htv7⟩
                have HF := Lib.hid (And.intro htv7.drop HG.out.size)
                clear HC2 htv7 HG
                go_wp2_with fail
                go_meet
                exact ⟨k, ee, ob2, od2, Q2, L2, rfl, rfl, rfl, rfl, rfl, HF⟩
            by_cases hr1 : r = 1
            · as_aux_lemma =>
                subst hr1
                clear hr
                obtain ⟨k, ee, L2, hin⟩ : ∃ k ee L2, ofF L 7 A [] = (k, ee, L2) := ⟨_, _, _, rfl⟩
                obtain ⟨⟨iw, iA, iB, iN⟩, hle, hcm, hla, hD, hat⟩ := HAT.out
                obtain ⟨htv, hX, hpb, hsz⟩ := H5.out
                have hby5 := (hat W5 (blw HBA.out htv.bel)).2
                have HG := Lib.hid (show vtc.Good L2 from by have hg := (good_of (htv.good hsz) 7 A []).1; rw [hin] at hg; exact hg)
                have HC1 := Lib.hid (htv.did hX (exp_any (htv.vok HTA.out hsz) A iA) hin)
                have HIN := Lib.hid hin
                clear htv hX hpb hsz hby5 hin hat iw iA iB iN hle hcm hla hD
                go_wp2_with fail
                refine HC1.out.mono ?_
                rintro en w6 ⟨ob2, rfl, htv6, hs6, hk6⟩
                obtain ⟨⟨iw, iA, iB, iN⟩, hle, hcm, hla, hD, hat⟩ := HAT.out
                have pb6 := (hk6 bx rfl).trans H5.out.2.2.1
                have hby6 := (hat w6 (blw HBA.out htv6.bel)).2
                have HC2 := Lib.hid (htv6.rdid (fun g hg => Nat.lt_of_lt_of_le (H5.out.2.1 g hg) hs6) (rexp_any (htv6.rok H5.out.2.2.2) A) HIN.out)
                clear c0 c1 c2 c3 c4
                obtain ⟨c0, c1, c2, c3, c4⟩ := box5 (Below.refl _ _) pb6
                clear HC1 htv6 hs6 hk6 pb6 hby6 hat iw iA iB iN hle hcm hla hD HIN
                go_wp2_with fail
                refine HC2.out.mono ?_
                rintro en w7 ⟨od2, Q2, rfl, htv7⟩
                have HF := Lib.hid (And.intro htv7.drop HG.out.size)
                clear HC2 htv7 HG
                go_wp2_with fail
                go_meet
                exact ⟨k, ee, ob2, od2, Q2, L2, rfl, rfl, rfl, rfl, rfl, HF⟩
            by_cases hr2 : r = 2
            · as_aux_lemma =>
                subst hr2
                clear hr
                obtain ⟨k, ee, L2, hin⟩ : ∃ k ee L2, powL L A B = (k, ee, L2) := ⟨_, _, _, rfl⟩
                obtain ⟨⟨iw, iA, iB, iN⟩, hle, hcm, hla, hD, hat⟩ := HAT.out
                obtain ⟨htv, hX, hpb, hsz⟩ := H5.out
                have hby5 := (hat W5 (blw HBA.out htv.bel)).2
                have HG := Lib.hid (show vtc.Good L2 from by have hg := (good_pow (htv.good hsz) A B).1; rw [hin] at hg; exact hg)
                have HC1 := Lib.hid (htv.did hX (cpow_any (htv.vok HTA.out hsz) A B iA iB) hin)
                have HIN := Lib.hid hin
                clear htv hX hpb hsz hby5 hin hat iw iA iB iN hle hcm hla hD
                go_wp2_with fail
                refine HC1.out.mono ?_
                rintro en w6 ⟨ob2, rfl, htv6, hs6, hk6⟩
                obtain ⟨⟨iw, iA, iB, iN⟩, hle, hcm, hla, hD, hat⟩ := HAT.out
                have pb6 := (hk6 bx rfl).trans H5.out.2.2.1
                have hby6 := (hat w6 (blw HBA.out htv6.bel)).2
                have HC2 := Lib.hid (htv6.rdid (fun g hg => Nat.lt_of_lt_of_le (H5.out.2.1 g hg) hs6) (rcpow_any (htv6.rok H5.out.2.2.2) A B) HIN.out)
                clear c0 c1 c2 c3 c4
                obtain ⟨c0, c1, c2, c3, c4⟩ := box5 (Below.refl _ _) pb6
                clear HC1 htv6 hs6 hk6 pb6 hby6 hat iw iA iB iN hle hcm hla hD HIN
                go_wp2_with fail
                refine HC2.out.mono ?_
                rintro en w7 ⟨od2, Q2, rfl, htv7⟩
                have HF := Lib.hid (And.intro htv7.drop HG.out.size)
                clear HC2 htv7 HG
                go_wp2_with fail
                go_meet
                exact ⟨k, ee, ob2, od2, Q2, L2, rfl, rfl, rfl, rfl, rfl, HF⟩
            by_cases hr3 : r = 3
            · as_aux_lemma =>
                subst hr3
                clear hr
                obtain ⟨k, ee, L2, hin⟩ : ∃ k ee L2, ofF L 2 A [] = (k, ee, L2) := ⟨_, _, _, rfl⟩
                obtain ⟨⟨iw, iA, iB, iN⟩, hle, hcm, hla, hD, hat⟩ := HAT.out
                obtain ⟨htv, hX, hpb, hsz⟩ := H5.out
                have hby5 := (hat W5 (blw HBA.out htv.bel)).2
                have HG := Lib.hid (show vtc.Good L2 from by have hg := (good_of (htv.good hsz) 2 A []).1; rw [hin] at hg; exact hg)
                have HC1 := Lib.hid (htv.did hX (pub_any (htv.vok HTA.out hsz) A iA) hin)
                have HIN := Lib.hid hin
                clear htv hX hpb hsz hby5 hin hat iw iA iB iN hle hcm hla hD
                go_wp2_with fail
                refine HC1.out.mono ?_
                rintro en w6 ⟨ob2, rfl, htv6, hs6, hk6⟩
                obtain ⟨⟨iw, iA, iB, iN⟩, hle, hcm, hla, hD, hat⟩ := HAT.out
                have pb6 := (hk6 bx rfl).trans H5.out.2.2.1
                have hby6 := (hat w6 (blw HBA.out htv6.bel)).2
                have HC2 := Lib.hid (htv6.rdid (fun g hg => Nat.lt_of_lt_of_le (H5.out.2.1 g hg) hs6) (rpub_any (htv6.rok H5.out.2.2.2) A) HIN.out)
                clear c0 c1 c2 c3 c4
                obtain ⟨c0, c1, c2, c3, c4⟩ := box5 (Below.refl _ _) pb6
                clear HC1 htv6 hs6 hk6 pb6 hby6 hat iw iA iB iN hle hcm hla hD HIN
                go_wp2_with fail
                refine HC2.out.mono ?_
                rintro en w7 ⟨od2, Q2, rfl, htv7⟩
                have HF := Lib.hid (And.intro htv7.drop HG.out.size)
                clear HC2 htv7 HG
                go_wp2_with fail
                go_meet
                exact ⟨k, ee, ob2, od2, Q2, L2, rfl, rfl, rfl, rfl, rfl, HF⟩
            by_cases hr4 : r = 4
            · as_aux_lemma =>
                subst hr4
                clear hr
                obtain ⟨k, ee, L2, hin⟩ : ∃ k ee L2, ofF L 3 A msg = (k, ee, L2) := ⟨_, _, _, rfl⟩
                obtain ⟨⟨iw, iA, iB, iN⟩, hle, hcm, hla, hD, hat⟩ := HAT.out
                obtain ⟨htv, hX, hpb, hsz⟩ := H5.out
                have hby5 := (hat W5 (blw HBA.out htv.bel)).2
                have HG := Lib.hid (show vtc.Good L2 from by have hg := (good_of (htv.good hsz) 3 A msg).1; rw [hin] at hg; exact hg)
                have HC1 := Lib.hid (htv.did hX (csign_any (htv.vok HTA.out hsz) A iA D la ca msg hby5 hle hcm (fun hl g' o' sp e => htv.far (Nat.lt_of_lt_of_le (hD hl g' o' sp e) HBA.out.size))) hin)
                have HIN := Lib.hid hin
                clear htv hX hpb hsz hby5 hin hat iw iA iB iN hle hcm hla hD
                go_wp2_with fail
                refine HC1.out.mono ?_
                rintro en w6 ⟨ob2, rfl, htv6, hs6, hk6⟩
                obtain ⟨⟨iw, iA, iB, iN⟩, hle, hcm, hla, hD, hat⟩ := HAT.out
                have pb6 := (hk6 bx rfl).trans H5.out.2.2.1
                have hby6 := (hat w6 (blw HBA.out htv6.bel)).2
                have HC2 := Lib.hid (htv6.rdid (fun g hg => Nat.lt_of_lt_of_le (H5.out.2.1 g hg) hs6) (rsign_any (htv6.rok H5.out.2.2.2) A D la ca msg hby6 hla) HIN.out)
                clear c0 c1 c2 c3 c4
                obtain ⟨c0, c1, c2, c3, c4⟩ := box5 (Below.refl _ _) pb6
                clear HC1 htv6 hs6 hk6 pb6 hby6 hat iw iA iB iN hle hcm hla hD HIN
                go_wp2_with fail
                refine HC2.out.mono ?_
                rintro en w7 ⟨od2, Q2, rfl, htv7⟩
                have HF := Lib.hid (And.intro htv7.drop HG.out.size)
                clear HC2 htv7 HG
                go_wp2_with fail
                go_meet
                exact ⟨k, ee, ob2, od2, Q2, L2, rfl, rfl, rfl, rfl, rfl, HF⟩
            by_cases hr5 : r = 5
            · as_aux_lemma =>
                subst hr5
                clear hr
                obtain ⟨k, ee, L2, hin⟩ : ∃ k ee L2, ofF L 4 A msg = (k, ee, L2) := ⟨_, _, _, rfl⟩
                obtain ⟨⟨iw, iA, iB, iN⟩, hle, hcm, hla, hD, hat⟩ := HAT.out
                obtain ⟨htv, hX, hpb, hsz⟩ := H5.out
                have hby5 := (hat W5 (blw HBA.out htv.bel)).2
                have HG := Lib.hid (show vtc.Good L2 from by have hg := (good_of (htv.good hsz) 4 A msg).1; rw [hin] at hg; exact hg)
                have HC1 := Lib.hid (htv.did hX (seal_any (htv.vok HTA.out hsz) A iA D la ca msg hby5 hle hcm (fun hl g' o' sp e => htv.far (Nat.lt_of_lt_of_le (hD hl g' o' sp e) HBA.out.size))) hin)
                have HIN := Lib.hid hin
                clear htv hX hpb hsz hby5 hin hat iw iA iB iN hle hcm hla hD
                go_wp2_with fail
                refine HC1.out.mono ?_
                rintro en w6 ⟨ob2, rfl, htv6, hs6, hk6⟩
                obtain ⟨⟨iw, iA, iB, iN⟩, hle, hcm, hla, hD, hat⟩ := HAT.out
                have pb6 := (hk6 bx rfl).trans H5.out.2.2.1
                have hby6 := (hat w6 (blw HBA.out htv6.bel)).2
                have HC2 := Lib.hid (htv6.rdid (fun g hg => Nat.lt_of_lt_of_le (H5.out.2.1 g hg) hs6) (rseal_any (htv6.rok H5.out.2.2.2) A D la ca msg hby6 hla) HIN.out)
                clear c0 c1 c2 c3 c4
                obtain ⟨c0, c1, c2, c3, c4⟩ := box5 (Below.refl _ _) pb6
                clear HC1 htv6 hs6 hk6 pb6 hby6 hat iw iA iB iN hle hcm hla hD HIN
                go_wp2_with fail
                refine HC2.out.mono ?_
                rintro en w7 ⟨od2, Q2, rfl, htv7⟩
                have HF := Lib.hid (And.intro htv7.drop HG.out.size)
                clear HC2 htv7 HG
                go_wp2_with fail
                go_meet
                exact ⟨k, ee, ob2, od2, Q2, L2, rfl, rfl, rfl, rfl, rfl, HF⟩
            by_cases hr6 : r = 6
            · as_aux_lemma =>
                subst hr6
                clear hr
                obtain ⟨k, ee, L2, hin⟩ : ∃ k ee L2, ofF L 6 A msg = (k, ee, L2) := ⟨_, _, _, rfl⟩
                obtain ⟨⟨iw, iA, iB, iN⟩, hle, hcm, hla, hD, hat⟩ := HAT.out
                obtain ⟨htv, hX, hpb, hsz⟩ := H5.out
                have hby5 := (hat W5 (blw HBA.out htv.bel)).2
                have HG := Lib.hid (show vtc.Good L2 from by have hg := (good_of (htv.good hsz) 6 A msg).1; rw [hin] at hg; exact hg)
                have HC1 := Lib.hid (htv.did hX (kdf_any (htv.vok HTA.out hsz) A iA D la ca msg hby5 hle hcm (fun hl g' o' sp e => htv.far (Nat.lt_of_lt_of_le (hD hl g' o' sp e) HBA.out.size))) hin)
                have HIN := Lib.hid hin
                clear htv hX hpb hsz hby5 hin hat iw iA iB iN hle hcm hla hD
                go_wp2_with fail
                refine HC1.out.mono ?_
                rintro en w6 ⟨ob2, rfl, htv6, hs6, hk6⟩
                obtain ⟨⟨iw, iA, iB, iN⟩, hle, hcm, hla, hD, hat⟩ := HAT.out
                have pb6 := (hk6 bx rfl).trans H5.out.2.2.1
                have hby6 := (hat w6 (blw HBA.out htv6.bel)).2
                have HC2 := Lib.hid (htv6.rdid (fun g hg => Nat.lt_of_lt_of_le (H5.out.2.1 g hg) hs6) (rkdf_any (htv6.rok H5.out.2.2.2) A D la ca msg hby6 hla) HIN.out)
                clear c0 c1 c2 c3 c4
                obtain ⟨c0, c1, c2, c3, c4⟩ := box5 (Below.refl _ _) pb6
                clear HC1 htv6 hs6 hk6 pb6 hby6 hat iw iA iB iN hle hcm hla hD HIN
                go_wp2_with fail
                refine HC2.out.mono ?_
                rintro en w7 ⟨od2, Q2, rfl, htv7⟩
                have HF := Lib.hid (And.intro htv7.drop HG.out.size)
                clear HC2 htv7 HG
                go_wp2_with fail
                go_meet
                exact ⟨k, ee, ob2, od2, Q2, L2, rfl, rfl, rfl, rfl, rfl, HF⟩
            by_cases hr7 : r = 7
            · as_aux_lemma =>
                subst hr7
                clear hr
                obtain ⟨k, ee, L2, hin⟩ : ∃ k ee L2, internV (.mk 5 0 msg []) L = (k, ee, L2) := ⟨_, _, _, rfl⟩
                obtain ⟨⟨iw, iA, iB, iN⟩, hle, hcm, hla, hD, hat⟩ := HAT.out
                obtain ⟨htv, hX, hpb, hsz⟩ := H5.out
                have hby5 := (hat W5 (blw HBA.out htv.bel)).2
                have HG := Lib.hid (show vtc.Good L2 from by have hg := (good_intern (htv.good hsz) (.mk 5 0 msg [])).1; rw [hin] at hg; exact hg)
                have HC1 := Lib.hid (htv.did hX (hash_any (htv.vok HTA.out hsz) D la ca msg hby5 hle hcm (fun hl g' o' sp e => htv.far (Nat.lt_of_lt_of_le (hD hl g' o' sp e) HBA.out.size))) hin)
                have HIN := Lib.hid hin
                clear htv hX hpb hsz hby5 hin hat iw iA iB iN hle hcm hla hD
                go_wp2_with fail
                refine HC1.out.mono ?_
                rintro en w6 ⟨ob2, rfl, htv6, hs6, hk6⟩
                obtain ⟨⟨iw, iA, iB, iN⟩, hle, hcm, hla, hD, hat⟩ := HAT.out
                have pb6 := (hk6 bx rfl).trans H5.out.2.2.1
                have hby6 := (hat w6 (blw HBA.out htv6.bel)).2
                have HC2 := Lib.hid (htv6.rdid (fun g hg => Nat.lt_of_lt_of_le (H5.out.2.1 g hg) hs6) (rhash_any (htv6.rok H5.out.2.2.2) D la ca msg hby6 hla) HIN.out)
                clear c0 c1 c2 c3 c4
                obtain ⟨c0, c1, c2, c3, c4⟩ := box5 (Below.refl _ _) pb6
                clear HC1 htv6 hs6 hk6 pb6 hby6 hat iw iA iB iN hle hcm hla hD HIN
                go_wp2_with fail
                refine HC2.out.mono ?_
                rintro en w7 ⟨od2, Q2, rfl, htv7⟩
                have HF := Lib.hid (And.intro htv7.drop HG.out.size)
                clear HC2 htv7 HG
                go_wp2_with fail
                go_meet
                exact ⟨k, ee, ob2, od2, Q2, L2, rfl, rfl, rfl, rfl, rfl, HF⟩
            by_cases hr8 : r = 8
            · as_aux_lemma =>
                subst hr8
                clear hr
                obtain ⟨⟨iw, iA, iB, iN⟩, hle, hcm, hla, hD, hat⟩ := HAT.out
                obtain ⟨htv, hX, hpb, hsz⟩ := H5.out
                obtain ⟨vv, hvv⟩ : ∃ b, verifyF L A msg B = b := ⟨_, rfl⟩
                have hV1 := fun (d : Nat) (os : Array Obj) => verify_any ((htv.below (below_regrown W5 d os)).vok HTA.out hsz) A B iA iB D la ca msg (hat _ (blw HBA.out (htv.below (below_regrown W5 d os)).bel)).2
                have hV2 := fun (d : Nat) (os : Array Obj) => rverify_any ((htv.below (below_regrown W5 d os)).rok hsz) htv.vlt.right A B D la ca msg (hat _ (blw HBA.out (htv.below (below_regrown W5 d os)).bel)).2
                rw [hvv] at hV1 hV2
                have HV1 := Lib.hid hV1
                have HV2 := Lib.hid hV2
                have HV3 := Lib.hid fun (d : Nat) (os : Array Obj) => verify_nil A B D la ca (Sort.grow (redrawn W5 d) os)
                have z1 := fun d os => cell_regrown c1 d os
                have z2 := fun d os => cell_regrown c2 d os
                have z4 := fun d os => cell_regrown c4 d os
                have hve : (vv == vv) = true := by cases vv <;> rfl
                clear htv hX hpb hsz hvv hV1 hV2 hat iw iA iB iN hle hcm hla hD
                go_wp2_with fail
                refine wp_region_quiet_below (by kernel_rfl) (by kernel_rfl) ?_
                repeat (go_big_quiet_step ((first | (go_at_call_of 22 vb; refine Calls.regrown_of (HV1.out _ _)) | (go_at_call 23; refine Calls.regrown_of (HV2.out _ _)) | (go_at_call 22; refine Calls.regrown_of (HV3.out _ _)))))
                refine wpQuiet_nil ?_
                intro _ hw'
                obtain ⟨⟨nq, osq⟩, hw''⟩ := hw'
                subst hw''
                have HF := Lib.hid (And.intro (H5.out.1.below (below_regrown W5 nq osq)).drop H5.out.2.2.2)
                clear z1 z2 z4 HV1 HV2 HV3
                go_wp2_with fail
                go_meet
                exact ⟨0, 0, ob, od, Q, L, rfl, rfl, rfl, rfl, rfl, HF⟩
            by_cases hr9 : r = 9
            · as_aux_lemma =>
                subst hr9
                clear hr
                obtain ⟨⟨iw, iA, iB, iN⟩, hle, hcm, hla, hD, hat⟩ := HAT.out
                obtain ⟨htv, hX, hpb, hsz⟩ := H5.out
                obtain ⟨R, hR⟩ : ∃ b, openF L A B = b := ⟨_, rfl⟩
                have ho1 := open_any (htv.vok HTA.out hsz) A B iA iB
                have ho2 := fun (w6 : World) (hb : Below W5.heap.size W5 w6) => ropen_any ((htv.below hb).rok hsz) htv.vlt.right A B
                rw [hR] at ho1 ho2
                obtain ⟨xs, hxs⟩ : ∃ x, R.getD [] = x := ⟨_, rfl⟩
                obtain ⟨is, his⟩ : ∃ b, R.isSome = b := ⟨_, rfl⟩
                unfold OpenPost at ho1
                unfold ROpenPost at ho2
                rw [hxs, his] at ho1 ho2
                have HO1 := Lib.hid ho1
                have HO2 := Lib.hid ho2
                clear htv hX hpb hsz hR ho1 ho2 hxs his hat iw iA iB iN hle hcm hla hD
                go_wp2_with fail
                refine HO1.out.mono ?_
                rintro en w6 ⟨A6, n6, c6, rfl, _, _, hy6, _, hb6⟩
                have HB6 := Lib.hid (And.intro hy6 hb6)
                clear c0 c1 c2 c3 c4 hy6
                obtain ⟨c0, c1, c2, c3, c4⟩ := box5 hb6 H5.out.2.2.1
                clear hb6 HO1
                go_wp2_with fail
                refine (HO2.out w6 HB6.out.2).mono ?_
                rintro en w7 ⟨A7, n7, c7, rfl, hy7, hb7⟩
                have s6 := str_now (HB6.out.1.below hb7) c6
                have s7 := str_now hy7 c7
                have hss : ((strOfNums xs).toList == (strOfNums xs).toList) = true := by simp
                have hi2 : (is == is) = true := by cases is <;> rfl
                have HF := Lib.hid (And.intro (H5.out.1.below (HB6.out.2.trans (hb7.mono HB6.out.2.size))).drop H5.out.2.2.2)
                clear hy7 hb7 c0 c1 c2 c3 c4 HO2 HB6
                go_wp2_with fail
                go_meet
                exact ⟨0, 0, ob, od, Q, L, rfl, rfl, rfl, rfl, rfl, HF⟩
            have n0 : (r == 0) = false := by simp [hr0]
            have n1 : (r == 1) = false := by simp [hr1]
            have n2 : (r == 2) = false := by simp [hr2]
            have n3 : (r == 3) = false := by simp [hr3]
            have n4 : (r == 4) = false := by simp [hr4]
            have n5 : (r == 5) = false := by simp [hr5]
            have n6 : (r == 6) = false := by simp [hr6]
            have n7 : (r == 7) = false := by simp [hr7]
            have n8 : (r == 8) = false := by simp [hr8]
            have n9 : (r == 9) = false := by simp [hr9]
            have HF := Lib.hid (And.intro H5.out.1.drop H5.out.2.2.2)
            go_wp2_with fail
            go_meet
            exact ⟨0, 0, ob, od, Q, L, rfl, rfl, rfl, rfl, rfl, HF⟩
          case rest =>
            as_aux_lemma =>
              obtain ⟨k, ee, ob2, od2, Q2, L2, rfl, rfl, rfl, rfl, rfl, HF⟩ := hcut
              clear c0 c1 c2 c3 c4 hr H5 HW5 HI HAT
              have htw8 := HF.out.1
              obtain ⟨A9, c9, x9⟩ := Vlt.box htw8.vlt
              obtain ⟨A8, c8, x8, _⟩ := htw8.rvl.at
              obtain ⟨l2, hl2⟩ : ∃ x, L2.length = x := ⟨_, rfl⟩
              rw [hl2] at x9 x8
              have x8' := fun d os => cell_regrown x8 d os
              have HLEN := Lib.hid fun (d : Nat) (os : Array Obj) => (show Calls Tryz.prog 26 #[.pointer (some ⟨vb, 0, none⟩)] (Sort.grow (redrawn wc d) os) fun e w' => e = .returned (.int .i64 l2) ∧ Below (Sort.grow (redrawn wc d) os).heap.size (Sort.grow (redrawn wc d) os) w' from (len_cell vb l2 c9 A9 _ (cell_regrown x9 d os)).mono fun e w' ⟨h1, h2⟩ => ⟨h1, by rw [h2]; exact Below.refl _ _⟩)
              have hkk : (k != k) = false := by simp
              have hee : (ee != ee) = false := by simp
              clear htw8 x9 x8 hl2
              go_wp2_with fail
              refine wp_region_quiet_below (by kernel_rfl) (by kernel_rfl) ?_
              repeat (go_big_quiet_step ((go_at_call 26; refine Calls.regrown_of (HLEN.out _ _))))
              refine wpQuiet_nil ?_
              intro _ hw'
              obtain ⟨⟨nq', osq⟩, hw''⟩ := hw'
              subst hw''
              have HEND := Lib.hid (And.intro (HF.out.1.below (below_regrown wc nq' osq)) HF.out.2)
              clear x8' HLEN hkk hee HF
              go_wp2
              go_roundg gk'
              case measure => omega
              case rel => exact ⟨i + 1, ob2, od2, Q2, L2, by go_num, HN.out.1, HN.out.2, HEND⟩
        · obtain rfl : len1 = i := by omega
          have hltz : ¬ (len1 : Int) < (len1 : Int) := by omega
          have HE := Lib.hid (blw HBA.out HI.out.1.bel)
          clear HI hgk
          go_wp2
          go_ret
          exact ⟨rfl, HE.out⟩
    · have hlz : (300 : Int) < (len1 : Int) := by omega
      have HE := Lib.hid (blw HBA.out htw.bel)
      clear htw hsz HB2
      go_wp2
      go_ret
      exact ⟨rfl, HE.out⟩

theorem reads (os : Os) {H : Type} (enc : TypeId × Value → H) : ∃ places, DataW.whole enc Tryz.prog ((txc.laidWorld os).forCall (fun _ _ => 0) ⟨#[], #[.slice none 0 0, .slice none 0 0], []⟩).memory Tryz.f3.params.toList Rows.cryptoPlaysSpec.vars false (#[.slice none 0 0, .slice none 0 0] : Array Value).toList 8 = some ([.nil, .nil], [], places) :=
  ⟨[], by kernel_rfl⟩
set_option maxRecDepth 100000 in
theorem lifted (os : Os) (started : os.Started) (H : Type) (enc : TypeId × Value → H) (F : Stop.Interp) :
    ReturnsInHanded {} Tryz.checked os 3 .any ((OpenSpec.ofChange Rows.cryptoPlaysSpec).preRow enc Tryz.prog Tryz.f3 Rows.cryptoPlaysRow.domain false Rows.cryptoPlaysRow.laid) (((OpenSpec.ofChange Rows.cryptoPlaysSpec).at F).post enc Tryz.prog Tryz.f3 false true false false) := by
  obtain ⟨places, hx⟩ := reads os enc
  refine returnsInHanded_of_row (C := Tryz.checked) (s := (OpenSpec.ofChange Rows.cryptoPlaysSpec)) own started (by kernel_rfl) Tryz.func3
    (witness_row_at (enc := enc) (C := Tryz.checked) false (txc.laidWorld os) #[.slice none 0 0, .slice none 0 0] rfl (by kernel_rfl) (by kernel_rfl) (by kernel_rfl)
      (OpenSpec.preRow_of_cond 8 hx (by kernel_rfl) (fun k hk => by cases hk) (by kernel_rfl) (txc.laid_met os _))) ?_
  intro W base args ds gs before hval0 hW hcnd hcond hsz0 hL _ _
  have hval : ∀ (j : Nat) t v, Tryz.f3.params[j]? = some t → args[j]? = some v → Value.okWide Tryz.prog W .any base t v := hval0
  have hW' := hW
  obtain ⟨p, q, hA0, hV, rfl, hfz, hnd⟩ := hW
  have hA : DataW.TrodAll enc Tryz.prog W 0 (fun _ => true) true Tryz.f3.params.toList args.toList ds p := hA0
  have hsz : (DataW.weightsEach Tryz.prog (Tryz.f3.params.toList ++ (OpenSpec.ofChange Rows.cryptoPlaysSpec).bare.plain.varTypes Tryz.prog) (ds ++ gs)).all (· ≤ reachBytes) = true := hsz0
  rw [Tryz.params3] at hA hval hsz
  obtain ⟨v0, vs0, d0, ds0, p0, q0, hargs, rfl, rfl, h0, r_0⟩ := trodAll_cons hA
  obtain ⟨v1, vs1, d1, ds1, p1, q1, rfl, rfl, rfl, h1, r_1⟩ := trodAll_cons r_0
  obtain ⟨rfl, rfl, rfl⟩ := trodAll_nil r_1
  obtain rfl : args = #[v0, v1] := by cases args; simp_all
  obtain ⟨rfl, rfl⟩ := trodVars_none hV
  obtain ⟨a0, len0, cap0, rfl⟩ := okWide_slice Tryz.underlying22 (hval 0 22 v0 rfl rfl)
  have k0 := h0
  have lt0 : ∀ x ∈ p0, x.block < W.heap.size := by obtain ⟨m, hm⟩ := k0; exact DataW.trod_lt m _ _ _ hm
  obtain ⟨x0, e0, w0, l0, m0, z0⟩ := tmc.open_tms ({ U := _, f0 := _, f1 := _, f2 := _, f3 := _, hT := Tryz.underlying57, hone := by kernel_rfl, hC := by kernel_rfl, e0 := Tryz.underlying55, e1 := Tryz.underlying2, e2 := Tryz.underlying29, eU := Tryz.underlying5, cU := by kernel_rfl, bU := by kernel_rfl, e3 := Tryz.underlying22 }) Tryz.underlying22 h0
  have y0 := z0 (tmc.each_fit hsz (j := 0) rfl rfl)
  obtain ⟨a1, len1, cap1, rfl⟩ := okWide_slice Tryz.underlying23 (hval 1 23 v1 rfl rfl)
  have k1 := h1
  have lt1 : ∀ x ∈ p1, x.block < W.heap.size := by obtain ⟨m, hm⟩ := k1; exact DataW.trod_lt m _ _ _ hm
  obtain ⟨x1, e1, s1, w1, l1, m1, z1⟩ := dtc.open_row (s := .agg [.int .i64, .int .i64, .int .i64, .int .i64, .bys]) (dtc.fit_row Tryz.underlying23 (dtc.fit_agg Tryz.underlying31 (by kernel_rfl) (dtc.fits_cons (by kernel_rfl) (dtc.fit_int Tryz.underlying3 (by kernel_rfl)) (dtc.fits_cons (by kernel_rfl) (dtc.fit_int Tryz.underlying3 (by kernel_rfl)) (dtc.fits_cons (by kernel_rfl) (dtc.fit_int Tryz.underlying3 (by kernel_rfl)) (dtc.fits_cons (by kernel_rfl) (dtc.fit_int Tryz.underlying2 (by kernel_rfl)) (dtc.fits_cons (by kernel_rfl) (dtc.fit_bys Tryz.underlying29 Tryz.underlying5 (by kernel_rfl) (by kernel_rfl) (by kernel_rfl)) dtc.fits_nil)))))) (by kernel_rfl) (by kernel_rfl)) h1
  have y1 := z1 (tmc.each_fit hsz (j := 1) rfl rfl)
  clear hA0 hval0
  have hT : txc.Tabs W := txc.tabs_of hL
  refine (walk a0 len0 cap0 x0 a1 len1 cap1 x1 W e0 w0 l0 m0 y0 e1 s1 w1 l1 m1 y1 hT).mono fun e W' ⟨he, bel⟩ => ?_
  subst he
  exact ⟨_, rfl, _, _, _, [], _, [], hW', trodAll_mk1 (shut_bool Tryz.underlying4 _), (trodAll_cons_mk (Below.trod laidOut (by kernel_rfl) (of_decide_eq_true (by kernel_rfl)) k0 bel lt0) (trodAll_cons_mk (Below.trod laidOut (by kernel_rfl) (of_decide_eq_true (by kernel_rfl)) k1 bel lt1) trodAll_mk0)), rfl, bel.frame _, fun h => by cases h⟩

theorem over : Rows.cryptoPlaysRow.holds Tryz.pinned (OpenSpec.ofChange Rows.cryptoPlaysSpec) :=
  OpenClaim.holds_of_cond 3 Tryz.f3 rfl rfl rfl rfl rfl rfl rfl ⟨rfl, rfl, rfl, rfl, rfl⟩ rfl rfl rfl rfl rfl (by kernel_rfl) Tryz.func3 (by kernel_rfl)
    (of_decide_eq_true (by kernel_rfl)) (by unfold Func.isWrapper; first | (rw [if_pos (by decide +kernel)]; kernel_rfl) | (rw [if_neg (by decide +kernel)]; exact ⟨rfl, rfl⟩))
    (fun os started H enc _ F => by rw [OpenClaim.pre_eq_preRow]; exact lifted os started H enc F)

theorem plain (f : FuncId) (fn : Func) (hf : Tryz.pinned.checked.prog.funcNamed "warder/warderlaw07.CryptoPlays" = some f) (hfn : Tryz.pinned.checked.prog.funcs[f]? = some fn) :
    false = Tryz.pinned.checked.prog.looks [] ∧ ∀ (j : Nat) t, fn.params[j]? = some t → Tryz.pinned.checked.prog.wantsStandIn t = false := by
  obtain rfl : f = 3 := Option.some.inj ((show Tryz.prog.funcNamed "warder/warderlaw07.CryptoPlays" = some 3 by kernel_rfl).symm.trans hf) |>.symm
  obtain rfl : fn = Tryz.f3 := (Option.some.inj (Tryz.func3.symm.trans hfn)).symm
  refine ⟨by kernel_rfl, fun j t ht => ?_⟩
  rw [Tryz.params3] at ht
  match j, ht with
    | 0, ht => obtain rfl : t = 22 := (Option.some.inj ht).symm; exact (show Tryz.prog.wantsStandIn 22 = false by kernel_rfl)
    | 1, ht => obtain rfl : t = 23 := (Option.some.inj ht).symm; exact (show Tryz.prog.wantsStandIn 23 = false by kernel_rfl)
    | j + 2, ht => simp at ht

theorem proved : Rows.CryptoPlaysCardSaid :=
  Claim7.holds_tied_plain_at .later [] _ _ _ _ over (fun _ h => by cases h) (by kernel_rfl) (fun _ h => by cases h) cryptoPlays_row_tie rfl ⟨rfl, rfl⟩ (by kernel_rfl) rfl plain (by kernel_rfl)
#print axioms proved
end Go.Proofs.YtfmdmahlljbbmaaGreatDoor.cryptoPlays
