/- The law NamesUnder of warderlaw09 answers true for every three names, and leaves its arguments as they were; where what it reads is of bulk at most 1048576 (the second form's bound), and the library's two tables are as its text lays them. -/
import Derived.Test.YthcancakkkjpaaaDoorCards
import Derived.Test.YthcancakkkjpaaaDoorTie
import Derived.WalkKit
import Derived.ProofKit
import Derived.OpenShut
import Derived.ChangeOld
import Derived.Below
import Derived.SizedLaws
import Derived.Test.YthcancakkkjpaaaDoorKb
import Derived.Test.YthcancakkkjpaaaDoorXc
import Derived.Test.YthcancakkkjpaaaDoorRt
namespace Go.Proofs.YthcancakkkjpaaaDoor.namesUnderUpto
open Go.ChangeShapes Go.WideShapes Go.ChangeAt Go.RowKit
set_option linter.unusedVariables false

theorem own : ownKnob Tryd.prog.godebug = none := by kernel_rfl
theorem laidOut : laidOutB Tryd.prog = true := by kernel_rfl

open Go.Proofs.YthcancakkkjpaaaDoor.tlvc Go.Proofs.YthcancakkkjpaaaDoor.ndc Go.Proofs.YthcancakkkjpaaaDoor.txc Go.Proofs.YthcancakkkjpaaaDoor.nmc

set_option maxRecDepth 100000 in
set_option maxHeartbeats 16000000 in
theorem walk (a0 : Option Addr) (len0 cap0 : Nat) (x0 : List dtc.Dt) (a1 : Option Addr) (len1 cap1 : Nat) (x1 : List dtc.Dt) (a2 : Option Addr) (len2 cap2 : Nat) (x2 : List dtc.Dt) (w : World) (e0 : x0.length = len0) (s0 : ∀ x ∈ x0, dtc.IsSh (.agg [.row (.int .i64), .str]) x) (w0 : 0 < len0 → ∃ g off, a0 = some ⟨g, off, none⟩ ∧ g < w.heap.size ∧ dtc.LiesRow (fun _ => True) w g (dtc.Sh.sz (.agg [.row (.int .i64), .str])) off x0) (l0 : len0 ≤ cap0) (m0 : cap0 ≤ maxLen) (y0 : dtc.smallDts x0) (e1 : x1.length = len1) (s1 : ∀ x ∈ x1, dtc.IsSh (.agg [.row (.int .i64), .str]) x) (w1 : 0 < len1 → ∃ g off, a1 = some ⟨g, off, none⟩ ∧ g < w.heap.size ∧ dtc.LiesRow (fun _ => True) w g (dtc.Sh.sz (.agg [.row (.int .i64), .str])) off x1) (l1 : len1 ≤ cap1) (m1 : cap1 ≤ maxLen) (y1 : dtc.smallDts x1) (e2 : x2.length = len2) (s2 : ∀ x ∈ x2, dtc.IsSh (.agg [.row (.int .i64), .str]) x) (w2 : 0 < len2 → ∃ g off, a2 = some ⟨g, off, none⟩ ∧ g < w.heap.size ∧ dtc.LiesRow (fun _ => True) w g (dtc.Sh.sz (.agg [.row (.int .i64), .str])) off x2) (l2 : len2 ≤ cap2) (m2 : cap2 ≤ maxLen) (y2 : dtc.smallDts x2) (hT : txc.Tabs w) :
    Calls Tryd.prog 6 #[.slice a0 len0 cap0, .slice a1 len1 cap1, .slice a2 len2 cap2] w fun e w' => e = .returned (.bool true) ∧ Below w.heap.size w w' := by
  obtain ⟨a, hl0, hL0, hz0⟩ := name_ofS s0 y0 e0 w0
  have za : ∀ x ∈ a, x.text.size ≤ 8796093022208 := fun x hx => by have := hz0 x hx; omega
  obtain ⟨b, hl1, hL1, hz1⟩ := name_ofS s1 y1 e1 w1
  have zb : ∀ x ∈ b, x.text.size ≤ 8796093022208 := fun x hx => by have := hz1 x hx; omega
  obtain ⟨c, hl2, hL2, hz2⟩ := name_ofS s2 y2 e2 w2
  have zc : ∀ x ∈ c, x.text.size ≤ 8796093022208 := fun x hx => by have := hz2 x hx; omega
  have HHD := Lib.hid (head_any w hT)
  have Saa := Lib.hid (fun W (hW : Below w.heap.size w W) => same_any _ _ a0 a0 len0 cap0 len0 cap0 a a W hl0 hl0 (hL0.below hW) (hL0.below hW) l0 m0 l0 m0 za za)
  have Sab := Lib.hid (fun W (hW : Below w.heap.size w W) => same_any _ _ a0 a1 len0 cap0 len1 cap1 a b W hl0 hl1 (hL0.below hW) (hL1.below hW) l0 m0 l1 m1 za zb)
  have Sba := Lib.hid (fun W (hW : Below w.heap.size w W) => same_any _ _ a1 a0 len1 cap1 len0 cap0 b a W hl1 hl0 (hL1.below hW) (hL0.below hW) l1 m1 l0 m0 zb za)
  have Sbc := Lib.hid (fun W (hW : Below w.heap.size w W) => same_any _ _ a1 a2 len1 cap1 len2 cap2 b c W hl1 hl2 (hL1.below hW) (hL2.below hW) l1 m1 l2 m2 zb zc)
  have Sac := Lib.hid (fun W (hW : Below w.heap.size w W) => same_any _ _ a0 a2 len0 cap0 len2 cap2 a c W hl0 hl2 (hL0.below hW) (hL2.below hW) l0 m0 l2 m2 za zc)
  have Uab := Lib.hid (fun W (hW : Below w.heap.size w W) => under_any _ _ a0 a1 len0 cap0 len1 cap1 a b W hl0 hl1 (hL0.below hW) (hL1.below hW) l0 m0 l1 m1 za zb)
  have Ubc := Lib.hid (fun W (hW : Below w.heap.size w W) => under_any _ _ a1 a2 len1 cap1 len2 cap2 b c W hl1 hl2 (hL1.below hW) (hL2.below hW) l1 m1 l2 m2 zb zc)
  have Uac := Lib.hid (fun W (hW : Below w.heap.size w W) => under_any _ _ a0 a2 len0 cap0 len2 cap2 a c W hl0 hl2 (hL0.below hW) (hL2.below hW) l0 m0 l2 m2 za zc)
  have Uba := Lib.hid (fun W (hW : Below w.heap.size w W) => under_any _ _ a1 a0 len1 cap1 len0 cap0 b a W hl1 hl0 (hL1.below hW) (hL0.below hW) l1 m1 l0 m0 zb za)
  have hmore := fun W (hW : Below w.heap.size w W) (hn : len0 ≤ 200) (hm : len1 ≤ 200) => more_run W a0 a1 len0 cap0 len1 cap1 a b hl0 hl1 ((hL0.bound.below hW).mono (fun g hg => Nat.lt_of_lt_of_le hg hW.size)) ((hL1.bound.below hW).mono (fun g hg => Nat.lt_of_lt_of_le hg hW.size)) (by omega) (by omega)
  have HM := Lib.hid hmore
  have hmu := fun W (hW : Below w.heap.size w W) (V : Option Addr) (cv : Nat) (hc : len0 + len1 ≤ cv) (hm : cv ≤ maxLen) (hV : Lst atE (fun _ => True) W V (a ++ b)) => under_any _ _ V a0 (len0 + len1) cv len0 cap0 (a ++ b) a W (by rw [List.length_append, hl0, hl1]) hl0 hV (hL0.below hW) hc hm l0 m0 (fun x hx => (List.mem_append.1 hx).elim (za x) (zb x)) za
  have HMU := Lib.hid hmu
  have haa : eqP eqA a a = true := eqP_refl eqA_refl a
  rw [haa] at Saa
  rw [unP_more] at HMU
  rw [eqP_sym b a] at Sba
  have hF1 : eqP eqA a b = true → eqP eqA b c = true → eqP eqA a c = true := eqP_tr
  have hF2 : unP a b = true → unP b c = true → unP a c = true := unP_tr
  have hF3 : (unP a b && unP b a) = eqP eqA a b := unP_both a b
  obtain ⟨sab, hsab⟩ : ∃ x, eqP eqA a b = x := ⟨_, rfl⟩
  obtain ⟨sbc, hsbc⟩ : ∃ x, eqP eqA b c = x := ⟨_, rfl⟩
  obtain ⟨sac, hsac⟩ : ∃ x, eqP eqA a c = x := ⟨_, rfl⟩
  obtain ⟨uab, huab⟩ : ∃ x, unP a b = x := ⟨_, rfl⟩
  obtain ⟨ubc, hubc⟩ : ∃ x, unP b c = x := ⟨_, rfl⟩
  obtain ⟨uac, huac⟩ : ∃ x, unP a c = x := ⟨_, rfl⟩
  obtain ⟨uba, huba⟩ : ∃ x, unP b a = x := ⟨_, rfl⟩
  rw [hsab] at Sab Sba hF1 hF3
  rw [hsbc] at Sbc hF1
  rw [hsac] at Sac hF1
  rw [huab] at Uab hF2 hF3
  rw [hubc] at Ubc hF2
  rw [huac] at Uac hF2
  rw [huba] at Uba hF3
  have HF1 := Lib.hid hF1
  have HF2 := Lib.hid hF2
  have HF3 := Lib.hid hF3
  clear hF1 hF2 hF3 hsab hsbc hsac huab hubc huac huba haa hmore hmu hl0 hL0 hz0 hl1 hL1 hz1 hl2 hL2 hz2 za zb zc hT s0 y0 e0 w0 s1 y1 e1 w1 s2 y2 e2 w2 l0 m0 l1 m1 l2 m2
  by_cases hg : 200 < len0 ∨ 200 < len1 ∨ 200 < len2
  · have key : ∀ (u0 u1 u2 : Bool), decide ((200 : Int) < (len0 : Int)) = u0 → decide ((200 : Int) < (len1 : Int)) = u1 → decide ((200 : Int) < (len2 : Int)) = u2 → (u0 = true ∨ (u0 = false ∧ u1 = true) ∨ (u0 = false ∧ u1 = false ∧ u2 = true)) := by
      intro u0 u1 u2 h0 h1 h2
      subst h0 h1 h2
      simp only [decide_eq_true_eq, decide_eq_false_iff_not]
      omega
    clear Saa Sab Sba Sbc Sac Uab Ubc Uac Uba HM HMU HF1 HF2 HF3
    rcases key _ _ _ rfl rfl rfl with h | ⟨h, h'⟩ | ⟨h, h', h''⟩
    · have hz : (200 : Int) < (len0 : Int) := of_decide_eq_true h
      clear key hg h
      go_enter Tryd.func6, Tryd.ntmps6
      go_wp2_with fail
      refine HHD.out.mono ?_
      rintro e wa ⟨rfl, hba⟩
      have HA := Lib.hid hba
      clear hba HHD
      go_wp2
      go_ret
      exact ⟨rfl, HA.out⟩
    · have hz : ¬ (200 : Int) < (len0 : Int) := of_decide_eq_false h
      have hz' : (200 : Int) < (len1 : Int) := of_decide_eq_true h'
      clear key hg h h'
      go_enter Tryd.func6, Tryd.ntmps6
      go_wp2_with fail
      refine HHD.out.mono ?_
      rintro e wa ⟨rfl, hba⟩
      have HA := Lib.hid hba
      clear hba HHD
      go_wp2
      go_ret
      exact ⟨rfl, HA.out⟩
    · have hz : ¬ (200 : Int) < (len0 : Int) := of_decide_eq_false h
      have hz' : ¬ (200 : Int) < (len1 : Int) := of_decide_eq_false h'
      have hz'' : (200 : Int) < (len2 : Int) := of_decide_eq_true h''
      clear key hg h h' h''
      go_enter Tryd.func6, Tryd.ntmps6
      go_wp2_with fail
      refine HHD.out.mono ?_
      rintro e wa ⟨rfl, hba⟩
      have HA := Lib.hid hba
      clear hba HHD
      go_wp2
      go_ret
      exact ⟨rfl, HA.out⟩
  have hz : ¬ (200 : Int) < (len0 : Int) := by omega
  have hz' : ¬ (200 : Int) < (len1 : Int) := by omega
  have hz'' : ¬ (200 : Int) < (len2 : Int) := by omega
  have HN := Lib.hid (show len0 ≤ 200 ∧ len1 ≤ 200 by omega)
  clear hg
  go_enter Tryd.func6, Tryd.ntmps6
  go_wp2_with fail
  refine HHD.out.mono ?_
  rintro e wa ⟨rfl, hba⟩
  have HA := Lib.hid hba
  clear hba HHD
  go_upto_region 4 with fail
  go_cut [8] (fun s8 wx => s8 = .bool true ∧ Hid (Below w.heap.size w wx))
  case first =>
    cases sab with
    | false =>
      have HC := Lib.hid (Saa.out _ HA.out)
      go_wp2_with fail
      refine HC.out.mono ?_
      rintro e wx1 ⟨rfl, hbb⟩
      have hbb := below_then HA.out hbb (Nat.le_refl _)
      clear HC HA
      have HA := Lib.hid hbb
      clear hbb
      have HC := Lib.hid (Sab.out _ HA.out)
      go_wp2_with fail
      refine HC.out.mono ?_
      rintro e wx2 ⟨rfl, hbb⟩
      have hbb := below_then HA.out hbb (Nat.le_refl _)
      clear HC HA
      have HA := Lib.hid hbb
      clear hbb
      have HC := Lib.hid (Sba.out _ HA.out)
      go_wp2_with fail
      refine HC.out.mono ?_
      rintro e wx3 ⟨rfl, hbb⟩
      have hbb := below_then HA.out hbb (Nat.le_refl _)
      clear HC HA
      have HA := Lib.hid hbb
      clear hbb
      have HC := Lib.hid (Sab.out _ HA.out)
      go_wp2_with fail
      refine HC.out.mono ?_
      rintro e wx4 ⟨rfl, hbb⟩
      have hbb := below_then HA.out hbb (Nat.le_refl _)
      clear HC HA
      have HA := Lib.hid hbb
      clear hbb
      go_wp2_with fail
      go_meet
      exact ⟨rfl, HA⟩
    | true =>
      cases sbc with
      | false =>
        have HC := Lib.hid (Saa.out _ HA.out)
        go_wp2_with fail
        refine HC.out.mono ?_
        rintro e wx5 ⟨rfl, hbb⟩
        have hbb := below_then HA.out hbb (Nat.le_refl _)
        clear HC HA
        have HA := Lib.hid hbb
        clear hbb
        have HC := Lib.hid (Sab.out _ HA.out)
        go_wp2_with fail
        refine HC.out.mono ?_
        rintro e wx6 ⟨rfl, hbb⟩
        have hbb := below_then HA.out hbb (Nat.le_refl _)
        clear HC HA
        have HA := Lib.hid hbb
        clear hbb
        have HC := Lib.hid (Sba.out _ HA.out)
        go_wp2_with fail
        refine HC.out.mono ?_
        rintro e wx7 ⟨rfl, hbb⟩
        have hbb := below_then HA.out hbb (Nat.le_refl _)
        clear HC HA
        have HA := Lib.hid hbb
        clear hbb
        have HC := Lib.hid (Sab.out _ HA.out)
        go_wp2_with fail
        refine HC.out.mono ?_
        rintro e wx8 ⟨rfl, hbb⟩
        have hbb := below_then HA.out hbb (Nat.le_refl _)
        clear HC HA
        have HA := Lib.hid hbb
        clear hbb
        have HC := Lib.hid (Sbc.out _ HA.out)
        go_wp2_with fail
        refine HC.out.mono ?_
        rintro e wx9 ⟨rfl, hbb⟩
        have hbb := below_then HA.out hbb (Nat.le_refl _)
        clear HC HA
        have HA := Lib.hid hbb
        clear hbb
        go_wp2_with fail
        go_meet
        exact ⟨rfl, HA⟩
      | true =>
        have h3 := HF1.out rfl rfl
        subst h3
        have HC := Lib.hid (Saa.out _ HA.out)
        go_wp2_with fail
        refine HC.out.mono ?_
        rintro e wx10 ⟨rfl, hbb⟩
        have hbb := below_then HA.out hbb (Nat.le_refl _)
        clear HC HA
        have HA := Lib.hid hbb
        clear hbb
        have HC := Lib.hid (Sab.out _ HA.out)
        go_wp2_with fail
        refine HC.out.mono ?_
        rintro e wx11 ⟨rfl, hbb⟩
        have hbb := below_then HA.out hbb (Nat.le_refl _)
        clear HC HA
        have HA := Lib.hid hbb
        clear hbb
        have HC := Lib.hid (Sba.out _ HA.out)
        go_wp2_with fail
        refine HC.out.mono ?_
        rintro e wx12 ⟨rfl, hbb⟩
        have hbb := below_then HA.out hbb (Nat.le_refl _)
        clear HC HA
        have HA := Lib.hid hbb
        clear hbb
        have HC := Lib.hid (Sab.out _ HA.out)
        go_wp2_with fail
        refine HC.out.mono ?_
        rintro e wx13 ⟨rfl, hbb⟩
        have hbb := below_then HA.out hbb (Nat.le_refl _)
        clear HC HA
        have HA := Lib.hid hbb
        clear hbb
        have HC := Lib.hid (Sbc.out _ HA.out)
        go_wp2_with fail
        refine HC.out.mono ?_
        rintro e wx14 ⟨rfl, hbb⟩
        have hbb := below_then HA.out hbb (Nat.le_refl _)
        clear HC HA
        have HA := Lib.hid hbb
        clear hbb
        have HC := Lib.hid (Sac.out _ HA.out)
        go_wp2_with fail
        refine HC.out.mono ?_
        rintro e wx15 ⟨rfl, hbb⟩
        have hbb := below_then HA.out hbb (Nat.le_refl _)
        clear HC HA
        have HA := Lib.hid hbb
        clear hbb
        go_wp2_with fail
        go_meet
        exact ⟨rfl, HA⟩
  case rest =>
    obtain ⟨rfl, HA⟩ := hcut
    go_upto_region 5 with fail
    go_cut [9] (fun s9 wx => s9 = .bool true ∧ Hid (Below w.heap.size w wx))
    case first =>
      cases uab with
      | false =>
        have HC := Lib.hid (Uab.out _ HA.out)
        go_wp2_with fail
        refine HC.out.mono ?_
        rintro e wx16 ⟨rfl, hbb⟩
        have hbb := below_then HA.out hbb (Nat.le_refl _)
        clear HC HA
        have HA := Lib.hid hbb
        clear hbb
        go_wp2_with fail
        go_meet
        exact ⟨rfl, HA⟩
      | true =>
        cases ubc with
        | false =>
          have HC := Lib.hid (Uab.out _ HA.out)
          go_wp2_with fail
          refine HC.out.mono ?_
          rintro e wx17 ⟨rfl, hbb⟩
          have hbb := below_then HA.out hbb (Nat.le_refl _)
          clear HC HA
          have HA := Lib.hid hbb
          clear hbb
          have HC := Lib.hid (Ubc.out _ HA.out)
          go_wp2_with fail
          refine HC.out.mono ?_
          rintro e wx18 ⟨rfl, hbb⟩
          have hbb := below_then HA.out hbb (Nat.le_refl _)
          clear HC HA
          have HA := Lib.hid hbb
          clear hbb
          go_wp2_with fail
          go_meet
          exact ⟨rfl, HA⟩
        | true =>
          have h3 := HF2.out rfl rfl
          subst h3
          have HC := Lib.hid (Uab.out _ HA.out)
          go_wp2_with fail
          refine HC.out.mono ?_
          rintro e wx19 ⟨rfl, hbb⟩
          have hbb := below_then HA.out hbb (Nat.le_refl _)
          clear HC HA
          have HA := Lib.hid hbb
          clear hbb
          have HC := Lib.hid (Ubc.out _ HA.out)
          go_wp2_with fail
          refine HC.out.mono ?_
          rintro e wx20 ⟨rfl, hbb⟩
          have hbb := below_then HA.out hbb (Nat.le_refl _)
          clear HC HA
          have HA := Lib.hid hbb
          clear hbb
          have HC := Lib.hid (Uac.out _ HA.out)
          go_wp2_with fail
          refine HC.out.mono ?_
          rintro e wx21 ⟨rfl, hbb⟩
          have hbb := below_then HA.out hbb (Nat.le_refl _)
          clear HC HA
          have HA := Lib.hid hbb
          clear hbb
          go_wp2_with fail
          go_meet
          exact ⟨rfl, HA⟩
    case rest =>
      obtain ⟨rfl, HA⟩ := hcut
      obtain ⟨V1, c1, wm1, V2, c2, wm2, hr1, hr2, hLm, h3, h4, hbm⟩ := HM.out _ HA.out HN.out.1 HN.out.2
      have hbm2 := below_then HA.out hbm (Nat.le_refl _)
      have HMC := Lib.hid (HMU.out wm2 hbm2 V2 c2 h3 h4 hLm)
      clear HA
      have HA := Lib.hid hbm2
      clear hLm h3 h4 hbm hbm2 HM HMU
      go_wp2_with (first | (at_builtin; refine wpl_append rfl (.tmp 70) (.tmp 71) 23 rfl _ _ _ rfl rfl hr1 ?_) | (at_builtin; refine wpl_append rfl (.tmp 72) (.tmp 73) 23 rfl _ _ _ rfl rfl hr2 ?_))
      refine HMC.out.mono ?_
      rintro e wm3 ⟨rfl, hbb⟩
      have hbb := below_then HA.out hbb (Nat.le_refl _)
      clear HMC HA hr1 hr2
      have HA := Lib.hid hbb
      clear hbb
      cases uab with
      | false =>
        have h5 : false = sab := HF3.out
        subst h5
        have HC := Lib.hid (Uab.out _ HA.out)
        go_wp2_with fail
        refine HC.out.mono ?_
        rintro e wx22 ⟨rfl, hbb⟩
        have hbb := below_then HA.out hbb (Nat.le_refl _)
        clear HC HA
        have HA := Lib.hid hbb
        clear hbb
        have HC := Lib.hid (Sab.out _ HA.out)
        go_wp2_with fail
        refine HC.out.mono ?_
        rintro e wx23 ⟨rfl, hbb⟩
        have hbb := below_then HA.out hbb (Nat.le_refl _)
        clear HC HA
        have HA := Lib.hid hbb
        clear hbb
        go_wp2
        go_ret
        exact ⟨by first | rfl | simp, HA.out⟩
      | true =>
        have h5 : uba = sab := HF3.out
        subst h5
        have HC := Lib.hid (Uab.out _ HA.out)
        go_wp2_with fail
        refine HC.out.mono ?_
        rintro e wx24 ⟨rfl, hbb⟩
        have hbb := below_then HA.out hbb (Nat.le_refl _)
        clear HC HA
        have HA := Lib.hid hbb
        clear hbb
        have HC := Lib.hid (Uba.out _ HA.out)
        go_wp2_with fail
        refine HC.out.mono ?_
        rintro e wx25 ⟨rfl, hbb⟩
        have hbb := below_then HA.out hbb (Nat.le_refl _)
        clear HC HA
        have HA := Lib.hid hbb
        clear hbb
        have HC := Lib.hid (Sab.out _ HA.out)
        go_wp2_with fail
        refine HC.out.mono ?_
        rintro e wx26 ⟨rfl, hbb⟩
        have hbb := below_then HA.out hbb (Nat.le_refl _)
        clear HC HA
        have HA := Lib.hid hbb
        clear hbb
        go_wp2
        go_ret
        exact ⟨by first | rfl | simp, HA.out⟩

theorem reads (os : Os) {H : Type} (enc : TypeId × Value → H) : ∃ places, DataW.whole enc Tryd.prog ((txc.laidWorld os).forCall (fun _ _ => 0) ⟨#[], #[.slice none 0 0, .slice none 0 0, .slice none 0 0], []⟩).memory Tryd.f6.params.toList Rows.namesUnderSpec.vars false (#[.slice none 0 0, .slice none 0 0, .slice none 0 0] : Array Value).toList 8 = some ([.nil, .nil, .nil], [], places) :=
  ⟨[], by kernel_rfl⟩
set_option maxRecDepth 100000 in
theorem lifted (os : Os) (started : os.Started) (H : Type) (enc : TypeId × Value → H) (F : Stop.Interp) :
    ReturnsInHanded {} Tryd.checked os 6 .any ((Rows.OpenSpec.upto Rows.namesUnderSpec).preRow enc Tryd.prog Tryd.f6 Rows.namesUnderUptoRow.domain false Rows.namesUnderUptoRow.laid) (((Rows.OpenSpec.upto Rows.namesUnderSpec).at F).post enc Tryd.prog Tryd.f6 false true false false) := by
  obtain ⟨places, hx⟩ := reads os enc
  refine returnsInHanded_of_row (C := Tryd.checked) (s := (Rows.OpenSpec.upto Rows.namesUnderSpec)) own started (by kernel_rfl) Tryd.func6
    (witness_row_at (enc := enc) (C := Tryd.checked) false (txc.laidWorld os) #[.slice none 0 0, .slice none 0 0, .slice none 0 0] rfl (by kernel_rfl) (by kernel_rfl) (by kernel_rfl)
      (OpenSpec.preRow_of_cond 8 hx (by kernel_rfl) (fun k hk => by cases hk; kernel_rfl) (by kernel_rfl) (txc.laid_met os _))) ?_
  intro W base args ds gs before hval0 hW hcnd hcond hsz0 hL _ _
  have hval : ∀ (j : Nat) t v, Tryd.f6.params[j]? = some t → args[j]? = some v → Value.okWide Tryd.prog W .any base t v := hval0
  have hW' := hW
  obtain ⟨p, q, hA0, hV, rfl, hfz, hnd⟩ := hW
  have hA : DataW.TrodAll enc Tryd.prog W 0 (fun _ => true) true Tryd.f6.params.toList args.toList ds p := hA0
  have hsz : (DataW.weightsEach Tryd.prog (Tryd.f6.params.toList ++ (Rows.OpenSpec.upto Rows.namesUnderSpec).bare.plain.varTypes Tryd.prog) (ds ++ gs)).all (· ≤ reachBytes) = true := hsz0
  have hk : Rows.uptoSmall H (ds ++ gs) = true := hcond _ rfl
  rw [Tryd.params6] at hA hval hsz
  obtain ⟨v0, vs0, d0, ds0, p0, q0, hargs, rfl, rfl, h0, r_0⟩ := trodAll_cons hA
  obtain ⟨v1, vs1, d1, ds1, p1, q1, rfl, rfl, rfl, h1, r_1⟩ := trodAll_cons r_0
  obtain ⟨v2, vs2, d2, ds2, p2, q2, rfl, rfl, rfl, h2, r_2⟩ := trodAll_cons r_1
  obtain ⟨rfl, rfl, rfl⟩ := trodAll_nil r_2
  obtain rfl : args = #[v0, v1, v2] := by cases args; simp_all
  obtain ⟨rfl, rfl⟩ := trodVars_none hV
  obtain ⟨a0, len0, cap0, rfl⟩ := okWide_slice Tryd.underlying23 (hval 0 23 v0 rfl rfl)
  have k0 := h0
  have lt0 : ∀ x ∈ p0, x.block < W.heap.size := by obtain ⟨m, hm⟩ := k0; exact DataW.trod_lt m _ _ _ hm
  obtain ⟨x0, e0, s0, w0, l0, m0, z0⟩ := dtc.open_rowS (s := .agg [.row (.int .i64), .str]) (dtc.fit_row Tryd.underlying23 (dtc.fit_agg Tryd.underlying49 (by kernel_rfl) (dtc.fits_cons (by kernel_rfl) (dtc.fit_row Tryd.underlying47 (dtc.fit_int Tryd.underlying3 (by kernel_rfl)) (by kernel_rfl) (by kernel_rfl)) (dtc.fits_cons (by kernel_rfl) (dtc.fit_str Tryd.underlying9 (by kernel_rfl)) dtc.fits_nil))) (by kernel_rfl) (by kernel_rfl)) h0
  have y0 := z0 (dtc.bulk_at hk (j := 0) rfl)
  obtain ⟨a1, len1, cap1, rfl⟩ := okWide_slice Tryd.underlying23 (hval 1 23 v1 rfl rfl)
  have k1 := h1
  have lt1 : ∀ x ∈ p1, x.block < W.heap.size := by obtain ⟨m, hm⟩ := k1; exact DataW.trod_lt m _ _ _ hm
  obtain ⟨x1, e1, s1, w1, l1, m1, z1⟩ := dtc.open_rowS (s := .agg [.row (.int .i64), .str]) (dtc.fit_row Tryd.underlying23 (dtc.fit_agg Tryd.underlying49 (by kernel_rfl) (dtc.fits_cons (by kernel_rfl) (dtc.fit_row Tryd.underlying47 (dtc.fit_int Tryd.underlying3 (by kernel_rfl)) (by kernel_rfl) (by kernel_rfl)) (dtc.fits_cons (by kernel_rfl) (dtc.fit_str Tryd.underlying9 (by kernel_rfl)) dtc.fits_nil))) (by kernel_rfl) (by kernel_rfl)) h1
  have y1 := z1 (dtc.bulk_at hk (j := 1) rfl)
  obtain ⟨a2, len2, cap2, rfl⟩ := okWide_slice Tryd.underlying23 (hval 2 23 v2 rfl rfl)
  have k2 := h2
  have lt2 : ∀ x ∈ p2, x.block < W.heap.size := by obtain ⟨m, hm⟩ := k2; exact DataW.trod_lt m _ _ _ hm
  obtain ⟨x2, e2, s2, w2, l2, m2, z2⟩ := dtc.open_rowS (s := .agg [.row (.int .i64), .str]) (dtc.fit_row Tryd.underlying23 (dtc.fit_agg Tryd.underlying49 (by kernel_rfl) (dtc.fits_cons (by kernel_rfl) (dtc.fit_row Tryd.underlying47 (dtc.fit_int Tryd.underlying3 (by kernel_rfl)) (by kernel_rfl) (by kernel_rfl)) (dtc.fits_cons (by kernel_rfl) (dtc.fit_str Tryd.underlying9 (by kernel_rfl)) dtc.fits_nil))) (by kernel_rfl) (by kernel_rfl)) h2
  have y2 := z2 (dtc.bulk_at hk (j := 2) rfl)
  clear hA0 hval0
  have hT : txc.Tabs W := txc.tabs_of hL
  refine (walk a0 len0 cap0 x0 a1 len1 cap1 x1 a2 len2 cap2 x2 W e0 s0 w0 l0 m0 y0 e1 s1 w1 l1 m1 y1 e2 s2 w2 l2 m2 y2 hT).mono fun e W' ⟨he, bel⟩ => ?_
  subst he
  exact ⟨_, rfl, _, _, _, [], _, [], hW', trodAll_mk1 (shut_bool Tryd.underlying4 _), (trodAll_cons_mk (Below.trod laidOut (by kernel_rfl) (of_decide_eq_true (by kernel_rfl)) k0 bel lt0) (trodAll_cons_mk (Below.trod laidOut (by kernel_rfl) (of_decide_eq_true (by kernel_rfl)) k1 bel lt1) (trodAll_cons_mk (Below.trod laidOut (by kernel_rfl) (of_decide_eq_true (by kernel_rfl)) k2 bel lt2) trodAll_mk0))), rfl, bel.frame _, fun h => by cases h⟩

theorem over : Rows.namesUnderUptoRow.holds Tryd.pinned (Rows.OpenSpec.upto Rows.namesUnderSpec) :=
  OpenClaim.holds_of_cond 6 Tryd.f6 rfl rfl rfl rfl rfl rfl rfl ⟨rfl, rfl, rfl, rfl, rfl⟩ rfl rfl rfl rfl rfl (by kernel_rfl) Tryd.func6 (by kernel_rfl)
    (of_decide_eq_true (by kernel_rfl)) (by unfold Func.isWrapper; first | (rw [if_pos (by decide +kernel)]; kernel_rfl) | (rw [if_neg (by decide +kernel)]; exact ⟨rfl, rfl⟩))
    (fun os started H enc _ F => by rw [OpenClaim.pre_eq_preRow]; exact lifted os started H enc F)

theorem plain (f : FuncId) (fn : Func) (hf : Tryd.pinned.checked.prog.funcNamed "warder/warderlaw09.NamesUnder" = some f) (hfn : Tryd.pinned.checked.prog.funcs[f]? = some fn) :
    true = Tryd.pinned.checked.prog.looks [] ∧ ∀ (j : Nat) t, fn.params[j]? = some t → Tryd.pinned.checked.prog.wantsStandIn t = false := by
  obtain rfl : f = 6 := Option.some.inj ((show Tryd.prog.funcNamed "warder/warderlaw09.NamesUnder" = some 6 by kernel_rfl).symm.trans hf) |>.symm
  obtain rfl : fn = Tryd.f6 := (Option.some.inj (Tryd.func6.symm.trans hfn)).symm
  refine ⟨by kernel_rfl, fun j t ht => ?_⟩
  rw [Tryd.params6] at ht
  match j, ht with
    | 0, ht => obtain rfl : t = 23 := (Option.some.inj ht).symm; exact (show Tryd.prog.wantsStandIn 23 = false by kernel_rfl)
    | 1, ht => obtain rfl : t = 23 := (Option.some.inj ht).symm; exact (show Tryd.prog.wantsStandIn 23 = false by kernel_rfl)
    | 2, ht => obtain rfl : t = 23 := (Option.some.inj ht).symm; exact (show Tryd.prog.wantsStandIn 23 = false by kernel_rfl)
    | j + 3, ht => simp at ht

theorem proved : Rows.NamesUnderUptoCardSaid :=
  Claim7.holds_tied_plain_at .later [] _ _ _ _ over (fun _ h => by cases h) (by kernel_rfl) (fun _ h => by cases h) namesUnderUpto_row_tie rfl ⟨rfl, rfl⟩ (by kernel_rfl) rfl plain (by kernel_rfl)
#print axioms proved
end Go.Proofs.YthcancakkkjpaaaDoor.namesUnderUpto
