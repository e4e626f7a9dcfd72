/- The law DeriveGrows of warderlaw08 answers true for every list of terms and any handles, and leaves its arguments as they were; no condition. -/
import Derived.Test.YtlhogjigdmpokaaGreatDoorCards
import Derived.Test.YtlhogjigdmpokaaGreatDoorTie
import Derived.WalkKit
import Derived.ProofKit
import Derived.OpenShut
import Derived.ChangeOld
import Derived.Below
import Derived.SizedLaws
import Derived.Test.YtlhogjigdmpokaaGreatDoorTh
import Derived.Test.YtlhogjigdmpokaaGreatDoorVtTab
import Derived.Test.YtlhogjigdmpokaaGreatDoorDq
import Derived.Lib.QuietBelow
import Derived.BigQuiet
import Derived.Test.YtlhogjigdmpokaaGreatDoorFh
namespace Go.Proofs.YtlhogjigdmpokaaGreatDoor.deriveGrows
open Go.ChangeShapes Go.WideShapes Go.ChangeAt Go.RowKit
set_option linter.unusedVariables false

theorem own : ownKnob Tryz.prog.godebug = none := by kernel_rfl
theorem laidOut : laidOutB Tryz.prog = true := by kernel_rfl

open Go.Proofs.YtlhogjigdmpokaaGreatDoor.tlvc Go.Proofs.YtlhogjigdmpokaaGreatDoor.tmc Go.Proofs.YtlhogjigdmpokaaGreatDoor.vtc

set_option maxRecDepth 100000 in
set_option maxHeartbeats 16000000 in
theorem walk (a0 : Option Addr) (len0 cap0 : Nat) (x0 : List tmc.Tm) (a1 : Option Addr) (len1 cap1 : Nat) (x1 : List Int) (a2 : Option Addr) (len2 cap2 : Nat) (x2 : List Int) (w : World) (e0 : x0.length = len0) (w0 : tmc.Tms w a0 x0) (l0 : len0 ≤ cap0) (m0 : cap0 ≤ maxLen) (y0 : tmc.fitDs x0) (w1 : tlvc.Ins w a1 len1 x1) (l1 : len1 ≤ cap1) (r1 : cap1 ≤ 17592186043904) (w2 : tlvc.Ins w a2 len2 x2) (l2 : len2 ≤ cap2) (r2 : cap2 ≤ 17592186043904) (hT : txc.Tabs w) :
    Calls Tryz.prog 4 #[.slice a0 len0 cap0, .slice a1 len1 cap1, .slice a2 len2 cap2] w fun e w' => e = .returned (.bool true) ∧ Below w.heap.size w w' := by
  have hm1 : cap1 ≤ maxLen := by unfold maxLen; omega
  have hm2 : cap2 ≤ maxLen := by unfold maxLen; omega
  have hc19 : cap1 ≤ 9223372036854775807 := by omega
  have hc29 : cap2 ≤ 9223372036854775807 := by omega
  have HT := Lib.hid (show txc.Tab w.heap.size w from hT)
  have HX1 := Lib.hid (And.intro w1 hm1)
  have HX2 := Lib.hid (And.intro w2 hm2)
  have HH := Lib.hid (head8_any w hT)
  have HBO := Lib.hid fun (W : World) (hb : Below w.heap.size w W) => both_any a0 len0 cap0 x0 W e0 (tms_below w0 hb) l0 m0 ((hT.on hb).mono hb.size)
  clear w0 w1 w2 y0 e0 m0 hT hm1 hm2
  go_enter Tryz.func4, Tryz.ntmps4
  go_wp2_with fail
  refine HH.out.mono ?_
  rintro e wa ⟨rfl, hba⟩
  have HBA := Lib.hid hba
  have HB2 := Lib.hid (HBO.out wa hba)
  clear hba HBO HH
  go_wp2_with fail
  refine HB2.out.mono ?_
  rintro e wb (⟨rfl, hbb⟩ | ⟨vb, mb, ob, rb, od, L, rfl, htw, hsz⟩)
  · have HE := Lib.hid (blw HBA.out hbb)
    clear hbb
    go_wp2
    go_ret
    exact ⟨rfl, HE.out⟩
  · have hta : txc.Tab wa.heap.size wa := (HT.out.on HBA.out).mono HBA.out.size
    have hv := htw.vat hsz
    have HTA := Lib.hid hta
    have HV := Lib.hid hv
    have HE := Lib.hid (blw HBA.out hv.bel)
    clear htw hsz hv hta HB2
    by_cases hl5 : len1 ≤ 500
    · have hlz : ¬ (500 : Int) < (len1 : Int) := by omega
      by_cases hl6 : len2 ≤ 500
      · have hlz2 : ¬ (500 : Int) < (len2 : Int) := by omega
        have hC1 := HV.out.closure HTA.out a1 len1 cap1 x1 (HX1.out.1.below HE.out) l1 HX1.out.2
        have hcl := clF_len L x1
        have hcr := cl_rise L x1
        have hid := clF_idem L x1
        have hbd0 : ∀ m ∈ clF L x1, 0 ≤ m ∧ m < (L.length : Int) := fun m h => clF_bd h
        have hgr : ∀ m ∈ clF L x1, m ∈ clF L (x1 ++ x2) := fun m h => clF_grows m h
        have hkn : ∀ m ∈ x1, 0 ≤ m → m < (L.length : Int) → m ∈ clF L x1 := fun m h h0 h1 => clF_known h0 h1 h
        have hL96 := HV.out.vlt.len
        obtain ⟨az, haz⟩ : ∃ z, clF L x1 = z := ⟨_, rfl⟩
        rw [haz] at hC1 hcl hcr hid hbd0 hgr hkn
        obtain ⟨la, hla⟩ : ∃ l, az.length = l := ⟨_, rfl⟩
        rw [hla] at hcl
        obtain ⟨cz, hcz⟩ : ∃ z, clF L (x1 ++ x2) = z := ⟨_, rfl⟩
        rw [hcz] at hgr
        have HCZ := Lib.hid hcz
        clear hcz
        obtain ⟨N, hN⟩ : ∃ l, L.length = l := ⟨_, rfl⟩
        rw [hN] at hbd0 hkn hcl hL96
        have HC1 := Lib.hid hC1
        have HAZ := Lib.hid (And.intro hcr (And.intro hid (And.intro hbd0 (And.intro hgr (And.intro hkn (And.intro hcl (And.intro hla (And.intro hN hL96))))))))
        clear hC1 hcr hid hbd0 hgr hkn haz hcl hL96
        go_wp2_with fail
        refine HC1.out.mono ?_
        rintro e w3 ⟨A3, c3, rfl, i3, ⟨l3, m3⟩, b3, _⟩
        rw [hla] at i3 l3 ⊢
        have hC2 := (HV.out.below b3).closure HTA.out A3 la c3 az i3 l3 m3
        rw [HAZ.out.2.1] at hC2
        have HC2 := Lib.hid hC2
        have H3 := Lib.hid (And.intro i3 (And.intro l3 (And.intro m3 b3)))
        have h39 : c3 ≤ 9223372036854775807 := by unfold maxLen at m3; omega
        have hlc3 : la ≤ c3 := l3
        clear i3 l3 m3 b3 HC1 hC2
        go_wp2_with fail
        refine HC2.out.mono ?_
        rintro e w4 ⟨A4, c4, rfl, i4, ⟨l4, m4⟩, b4, _⟩
        rw [hla] at i4 l4 ⊢
        have hb34 := blw H3.out.2.2.2 b4
        have H4 := Lib.hid (And.intro i4 (And.intro hb34 b4))
        have hx14 : Ins w4 a1 len1 x1 := HX1.out.1.below (blw HE.out hb34)
        have hx24 : Ins w4 a2 len2 x2 := HX2.out.1.below (blw HE.out hb34)
        obtain ⟨v1, w5, v2, w6, run1, run2, ⟨A6, c6, rfl, l6, m6, i6⟩, hb6⟩ := app_both w4 a1 a2 len1 cap1 len2 cap2 x1 x2 hx14 hx24 (by omega)
        have hb36 := blw hb34 hb6
        have hC3 := (HV.out.below hb36).closure HTA.out A6 (len1 + len2) c6 (x1 ++ x2) i6 l6 m6
        rw [HCZ.out] at hC3
        have HC3 := Lib.hid hC3
        have H6 := Lib.hid (And.intro hb36 (And.intro (blw b4 hb6) hb6))
        have hp : ∀ w, Sem.run Tryz.prog (pure (#[] : Array Value)) w = .ok #[] w := fun _ => rfl
        have hst : ∀ p w, Sem.run Tryz.prog (storeCells p []) w = .ok () w := fun _ _ => rfl
        clear i4 l4 m4 b4 hb34 hx14 hx24 l6 m6 i6 hb6 hb36 HC2 hC3
        go_wp2_with (first | (at_builtin; refine wpl_append rfl (.tmp 43) (.tmp 44) 23 rfl _ _ _ rfl rfl run1 ?_) | (at_builtin; refine wpl_append rfl (.tmp 45) (.tmp 46) 23 rfl _ _ _ rfl rfl run2 ?_))
        clear run1 run2 hp hst
        refine HC3.out.mono ?_
        rintro e w7 ⟨A7, c7, rfl, i7, ⟨l7, m7⟩, b7, _⟩
        have hb37 := blw H6.out.2.1 b7
        have hsame := isame_b A3 A4 la c3 la c4 az az w7 (H3.out.1.below hb37) (H4.out.1.below (blw H6.out.2.2 b7)) (by unfold maxLen; have := HAZ.out.2.2.2.2.2.1; have := HAZ.out.2.2.2.2.2.2.2.2; omega)
        rw [show decide (az = az) = true from decide_eq_true rfl] at hsame
        have HSM := Lib.hid hsame
        have H7 := Lib.hid (And.intro i7 (And.intro l7 (And.intro m7 (And.intro hb37 (blw H6.out.1 b7)))))
        clear i7 l7 m7 b7 hb37 hsame HC3
        go_wp2_with fail
        refine HSM.out.mono ?_
        rintro e w8 ⟨rfl, hb8⟩
        have H8 := Lib.hid (And.intro (H3.out.1.below (blw H7.out.2.2.2.1 hb8)) (And.intro (H7.out.1.below hb8) (And.intro (blw H7.out.2.2.2.2 hb8) (blw H3.out.2.2.2 (blw H7.out.2.2.2.1 hb8)))))
        have mixed : Tryz.prog.follows Departure.mixedOrders = true := by kernel_rfl
        clear hb8 HSM
        go_wp2_with fail
        go_loopg [14] (la + 1) (fun gk s14 wx => ∃ (i : Nat), s14 = .int .i64 (i : Nat) ∧ i ≤ la ∧ la - i < gk ∧ Hid (Below w8.heap.size w8 wx))
        case atStart => exact ⟨0, rfl, by omega, by omega, Lib.hid (Below.refl _ _)⟩
        case round =>
          obtain ⟨i, rfl, hi, hgk, HR⟩ := hrel
          by_cases hlt : i < la
          · have hltz : (i : Int) < (la : Int) := by omega
            obtain ⟨gk', rfl⟩ : ∃ g', gk = g' + 1 := ⟨gk - 1, by omega⟩
            have HN := Lib.hid (And.intro (show i + 1 ≤ la from hlt) (show la - (i + 1) < gk' by omega))
            obtain ⟨b, off, e3, _, hc⟩ := (H8.out.1.below HR.out).2.2 (by omega)
            subst e3
            obtain ⟨y, hy⟩ : ∃ y, az.getD i 0 = y := ⟨_, rfl⟩
            have x0 := hc i hlt
            rw [hy] at x0
            have hil : i < az.length := by rw [HAZ.out.2.2.2.2.2.2.1]; exact hlt
            have hym : y ∈ az := by rw [← hy, List.getD_eq_getElem?_getD, List.getElem?_eq_getElem hil]; exact List.getElem_mem hil
            have hyb := HAZ.out.2.2.1 y hym
            have hyc : decide (y ∈ cz) = true := decide_eq_true (HAZ.out.2.2.2.1 y hym)
            have hha := fun (W : World) (hW : Below wr.heap.size wr W) => has_any A7 _ c7 cz y W ((H8.out.2.1.below HR.out).below hW) H7.out.2.1 H7.out.2.2.1
            rw [hyc] at hha
            have HHA := Lib.hid hha
            have hln := fun (W : World) (hW : Below wr.heap.size wr W) => (HV.out.below ((blw H8.out.2.2.2 HR.out).trans (hW.mono (blw H8.out.2.2.2 HR.out).size))).len
            rw [HAZ.out.2.2.2.2.2.2.2.1] at hln
            have HLN := Lib.hid fun (W : World) (hW : Below wr.heap.size wr W) => (hln W hW).mono (R' := fun e w' => e = .returned (.int .i64 (N : Nat)) ∧ Below W.heap.size W w') fun e w' h => ⟨h.1, by rw [h.2]; exact Below.refl _ _⟩
            have y0 : ¬ y < 0 := by omega
            have yN : ¬ (N : Int) ≤ y := by omega
            have hi0z : (0 : Int) ≤ (i : Int) := by omega
            clear hgk hi hil hym hyc hha hln hyb
            by_cases hi0 : i = 0
            · subst hi0
              clear hc hy
              go_wp2_with fail
              have d1 : decide (y < 0) = false := decide_eq_false (by omega)
              have d2 : decide ((N : Int) ≤ y) = false := decide_eq_false (by omega)
              have z0 : wr.cell? ⟨b, off, none⟩ = some (.int .i64 y) := x0
              clear x0
              have g0 := fun (d : Nat) (os : Array Obj) => cell_on (below_regrown wr d os) z0
              try dsimp only
              refine wp_region_quiet_below (by kernel_rfl) (by kernel_rfl) ?_
              repeat (go_big_quiet_step ((first | (go_at_call 15; refine Calls.regrown_of (HHA.out _ (below_regrown _ _ _))) | (go_at_call 16; refine Calls.regrown_of (HLN.out _ (below_regrown _ _ _))))))
              refine wpQuiet_nil ?_
              intro _ hw'
              obtain ⟨⟨nq, osq⟩, hw''⟩ := hw'
              subst hw''
              have HF := Lib.hid (blw HR.out (below_regrown wr nq osq))
              clear z0 g0
              go_wp2_with fail
              go_roundg gk'
              case measure => omega
              case rel => exact ⟨0 + 1, by go_num, HN.out.1, HN.out.2, HF⟩
            · obtain ⟨j, rfl⟩ : ∃ j, i = j + 1 := ⟨i - 1, by omega⟩
              obtain ⟨p, hp⟩ : ∃ p, az.getD j 0 = p := ⟨_, rfl⟩
              have x1' := hc j (by omega)
              rw [hp] at x1'
              have hpy := rise_at HAZ.out.1 (show j < j + 1 by omega) (by rw [HAZ.out.2.2.2.2.2.2.1]; exact hlt)
              rw [hp, hy] at hpy
              have hpn : ¬ y ≤ p := by omega
              have hjsub : ((j + 1 : Nat) : Int) - 1 = (j : Int) := by omega
              have hj0 : (0 : Int) ≤ (j : Int) := by omega
              have hjl : (j : Int) < (la : Int) := by omega
              have hjl2 : j < la := by omega
              have hi0p : (0 : Int) < ((j + 1 : Nat) : Int) := by omega
              have hj1 : (0 : Int) ≤ (j : Int) + 1 := by omega
              have hj1l : (j : Int) + 1 < (la : Int) := by omega
              have hj2 : (j : Int) + 1 - 1 = (j : Int) := by omega
              have hj3 : (0 : Int) < (j : Int) + 1 := by omega
              clear hc hy hp hpy hi0
              go_wp2_with fail
              have d1 : decide (y < 0) = false := decide_eq_false (by omega)
              have d2 : decide ((N : Int) ≤ y) = false := decide_eq_false (by omega)
              have d3 : decide (y ≤ p) = false := decide_eq_false (by omega)
              have d4 : decide ((0 : Int) < (j : Int) + 1) = true := decide_eq_true (by omega)
              have d5 : decide ((0 : Int) < ((j + 1 : Nat) : Int)) = true := decide_eq_true (by omega)
              have g0 := fun (d : Nat) (os : Array Obj) => cell_on (below_regrown wr d os) x0
              have g1 := fun (d : Nat) (os : Array Obj) => cell_on (below_regrown wr d os) x1'
              try dsimp only
              refine wp_region_quiet_below (by kernel_rfl) (by kernel_rfl) ?_
              repeat (go_big_quiet_step ((first | (go_at_call 15; refine Calls.regrown_of (HHA.out _ (below_regrown _ _ _))) | (go_at_call 16; refine Calls.regrown_of (HLN.out _ (below_regrown _ _ _))))))
              refine wpQuiet_nil ?_
              intro _ hw'
              obtain ⟨⟨nq, osq⟩, hw''⟩ := hw'
              subst hw''
              have HF := Lib.hid (blw HR.out (below_regrown wr nq osq))
              clear x0 x1' g0 g1
              go_wp2_with fail
              go_roundg gk'
              case measure => omega
              case rel => exact ⟨j + 1 + 1, by go_num, HN.out.1, HN.out.2, HF⟩
          · obtain rfl : la = i := by omega
            have hltz : ¬ (la : Int) < (la : Int) := by omega
            have HRB := Lib.hid HR.out
            have HR1 := Lib.hid (blw HE.out (blw H8.out.2.2.2 HR.out))
            have HR2 := Lib.hid (blw H8.out.2.2.2 HR.out)
            clear hgk hi
            go_wp2_with fail
            obtain ⟨we, hwe⟩ : ∃ x, x = wr := ⟨_, rfl⟩
            subst hwe
            go_loopg [15] (len1 + 1) (fun gk s15 wx => ∃ (i : Nat), s15 = .int .i64 (i : Nat) ∧ i ≤ len1 ∧ len1 - i < gk ∧ Hid (Below we.heap.size we wx))
            case atStart => exact ⟨0, rfl, by omega, by omega, Lib.hid (Below.refl _ _)⟩
            case round =>
              obtain ⟨i, rfl, hi, hgk, HR⟩ := hrel
              by_cases hlt : i < len1
              · have hltz : (i : Int) < (len1 : Int) := by omega
                obtain ⟨gk', rfl⟩ : ∃ g', gk = g' + 1 := ⟨gk - 1, by omega⟩
                have HN := Lib.hid (And.intro (show i + 1 ≤ len1 from hlt) (show len1 - (i + 1) < gk' by omega))
                obtain ⟨b1, off1, e1, _, hc⟩ := (HX1.out.1.below (blw HR1.out HR.out)).2.2 (by omega)
                subst e1
                obtain ⟨k, hk⟩ : ∃ y, x1.getD i 0 = y := ⟨_, rfl⟩
                have z0 := hc i hlt
                rw [hk] at z0
                have hil : i < x1.length := by rw [HX1.out.1.1]; exact hlt
                have hkm : k ∈ x1 := by rw [← hk, List.getD_eq_getElem?_getD, List.getElem?_eq_getElem hil]; exact List.getElem_mem hil
                have HKM := Lib.hid hkm
                have hln := fun (W : World) (hW : Below wr.heap.size wr W) => (HV.out.below ((blw HR2.out HR.out).trans (hW.mono (blw HR2.out HR.out).size))).len
                rw [HAZ.out.2.2.2.2.2.2.2.1] at hln
                have HLN := Lib.hid fun (W : World) (hW : Below wr.heap.size wr W) => (hln W hW).mono (R' := fun e w' => e = .returned (.int .i64 (N : Nat)) ∧ Below W.heap.size W w') fun e w' h => ⟨h.1, by rw [h.2]; exact Below.refl _ _⟩
                have hi0z : (0 : Int) ≤ (i : Int) := by omega
                clear hgk hi hil hkm hln hc hk
                by_cases hk0 : k < 0
                · have hk1 : ¬ 0 ≤ k := by omega
                  go_wp2_with fail
                  have d1 : decide (0 ≤ k) = false := decide_eq_false (by omega)
                  have g0 := fun (d : Nat) (os : Array Obj) => cell_on (below_regrown wr d os) z0
                  try dsimp only
                  refine wp_region_quiet_below (by kernel_rfl) (by kernel_rfl) ?_
                  repeat (go_big_quiet_step ((first | (go_at_call 15; refine Calls.regrown_of (HHA.out _ (below_regrown _ _ _))) | (go_at_call 16; refine Calls.regrown_of (HLN.out _ (below_regrown _ _ _))))))
                  refine wpQuiet_nil ?_
                  intro _ hw'
                  obtain ⟨⟨nq, osq⟩, hw''⟩ := hw'
                  subst hw''
                  have HF := Lib.hid (blw HR.out (below_regrown wr nq osq))
                  clear z0 g0
                  go_wp2_with fail
                  go_roundg gk'
                  case measure => omega
                  case rel => exact ⟨i + 1, by go_num, HN.out.1, HN.out.2, HF⟩
                · have hk1 : 0 ≤ k := by omega
                  by_cases hkN : k < (N : Int)
                  · have hin : decide (k ∈ az) = true := decide_eq_true (HAZ.out.2.2.2.2.1 k HKM.out hk1 hkN)
                    have hha := fun (W : World) (hW : Below wr.heap.size wr W) => has_any _ la c3 az k W (((H8.out.1.below HRB.out).below HR.out).below hW) hlc3 H3.out.2.2.1
                    rw [hin] at hha
                    have HHA := Lib.hid hha
                    clear hin hha
                    go_wp2_with fail
                    have d1 : decide (0 ≤ k) = true := decide_eq_true (by omega)
                    have d2 : decide (k < (N : Int)) = true := decide_eq_true (by omega)
                    have g0 := fun (d : Nat) (os : Array Obj) => cell_on (below_regrown wr d os) z0
                    try dsimp only
                    refine wp_region_quiet_below (by kernel_rfl) (by kernel_rfl) ?_
                    repeat (go_big_quiet_step ((first | (go_at_call 15; refine Calls.regrown_of (HHA.out _ (below_regrown _ _ _))) | (go_at_call 16; refine Calls.regrown_of (HLN.out _ (below_regrown _ _ _))))))
                    refine wpQuiet_nil ?_
                    intro _ hw'
                    obtain ⟨⟨nq, osq⟩, hw''⟩ := hw'
                    subst hw''
                    have HF := Lib.hid (blw HR.out (below_regrown wr nq osq))
                    clear z0 g0
                    go_wp2_with fail
                    go_roundg gk'
                    case measure => omega
                    case rel => exact ⟨i + 1, by go_num, HN.out.1, HN.out.2, HF⟩
                  · go_wp2_with fail
                    have d1 : decide (0 ≤ k) = true := decide_eq_true (by omega)
                    have d2 : decide (k < (N : Int)) = false := decide_eq_false (by omega)
                    have g0 := fun (d : Nat) (os : Array Obj) => cell_on (below_regrown wr d os) z0
                    try dsimp only
                    refine wp_region_quiet_below (by kernel_rfl) (by kernel_rfl) ?_
                    repeat (go_big_quiet_step ((first | (go_at_call 15; refine Calls.regrown_of (HHA.out _ (below_regrown _ _ _))) | (go_at_call 16; refine Calls.regrown_of (HLN.out _ (below_regrown _ _ _))))))
                    refine wpQuiet_nil ?_
                    intro _ hw'
                    obtain ⟨⟨nq, osq⟩, hw''⟩ := hw'
                    subst hw''
                    have HF := Lib.hid (blw HR.out (below_regrown wr nq osq))
                    clear z0 g0
                    go_wp2_with fail
                    go_roundg gk'
                    case measure => omega
                    case rel => exact ⟨i + 1, by go_num, HN.out.1, HN.out.2, HF⟩
              · obtain rfl : len1 = i := by omega
                have hltz : ¬ (len1 : Int) < (len1 : Int) := by omega
                have HRE := Lib.hid (blw HR1.out HR.out)
                clear hgk hi
                go_wp2_with fail
                go_ret
                exact ⟨rfl, HRE.out⟩
      · have hlz2 : (500 : Int) < (len2 : Int) := by omega
        go_wp2
        go_ret
        exact ⟨rfl, HE.out⟩
    · have hlz : (500 : Int) < (len1 : Int) := by omega
      go_wp2
      go_ret
      exact ⟨rfl, HE.out⟩

theorem reads (os : Os) {H : Type} (enc : TypeId × Value → H) : ∃ places, DataW.whole enc Tryz.prog ((txc.laidWorld os).forCall (fun _ _ => 0) ⟨#[], #[.slice none 0 0, .slice none 0 0, .slice none 0 0], []⟩).memory Tryz.f4.params.toList Rows.deriveGrowsSpec.vars false (#[.slice none 0 0, .slice none 0 0, .slice none 0 0] : Array Value).toList 8 = some ([.nil, .nil, .nil], [], places) :=
  ⟨[], by kernel_rfl⟩
set_option maxRecDepth 100000 in
theorem lifted (os : Os) (started : os.Started) (H : Type) (enc : TypeId × Value → H) (F : Stop.Interp) :
    ReturnsInHanded {} Tryz.checked os 4 .any ((OpenSpec.ofChange Rows.deriveGrowsSpec).preRow enc Tryz.prog Tryz.f4 Rows.deriveGrowsRow.domain false Rows.deriveGrowsRow.laid) (((OpenSpec.ofChange Rows.deriveGrowsSpec).at F).post enc Tryz.prog Tryz.f4 false true false false) := by
  obtain ⟨places, hx⟩ := reads os enc
  refine returnsInHanded_of_row (C := Tryz.checked) (s := (OpenSpec.ofChange Rows.deriveGrowsSpec)) own started (by kernel_rfl) Tryz.func4
    (witness_row_at (enc := enc) (C := Tryz.checked) false (txc.laidWorld os) #[.slice none 0 0, .slice none 0 0, .slice none 0 0] rfl (by kernel_rfl) (by kernel_rfl) (by kernel_rfl)
      (OpenSpec.preRow_of_cond 8 hx (by kernel_rfl) (fun k hk => by cases hk) (by kernel_rfl) (txc.laid_met os _))) ?_
  intro W base args ds gs before hval0 hW hcnd hcond hsz0 hL _ _
  have hval : ∀ (j : Nat) t v, Tryz.f4.params[j]? = some t → args[j]? = some v → Value.okWide Tryz.prog W .any base t v := hval0
  have hW' := hW
  obtain ⟨p, q, hA0, hV, rfl, hfz, hnd⟩ := hW
  have hA : DataW.TrodAll enc Tryz.prog W 0 (fun _ => true) true Tryz.f4.params.toList args.toList ds p := hA0
  have hsz : (DataW.weightsEach Tryz.prog (Tryz.f4.params.toList ++ (OpenSpec.ofChange Rows.deriveGrowsSpec).bare.plain.varTypes Tryz.prog) (ds ++ gs)).all (· ≤ reachBytes) = true := hsz0
  rw [Tryz.params4] at hA hval hsz
  obtain ⟨v0, vs0, d0, ds0, p0, q0, hargs, rfl, rfl, h0, r_0⟩ := trodAll_cons hA
  obtain ⟨v1, vs1, d1, ds1, p1, q1, rfl, rfl, rfl, h1, r_1⟩ := trodAll_cons r_0
  obtain ⟨v2, vs2, d2, ds2, p2, q2, rfl, rfl, rfl, h2, r_2⟩ := trodAll_cons r_1
  obtain ⟨rfl, rfl, rfl⟩ := trodAll_nil r_2
  obtain rfl : args = #[v0, v1, v2] := by cases args; simp_all
  obtain ⟨rfl, rfl⟩ := trodVars_none hV
  obtain ⟨a0, len0, cap0, rfl⟩ := okWide_slice Tryz.underlying22 (hval 0 22 v0 rfl rfl)
  have k0 := h0
  have lt0 : ∀ x ∈ p0, x.block < W.heap.size := by obtain ⟨m, hm⟩ := k0; exact DataW.trod_lt m _ _ _ hm
  obtain ⟨x0, e0, w0, l0, m0, z0⟩ := tmc.open_tms ({ U := _, f0 := _, f1 := _, f2 := _, f3 := _, hT := Tryz.underlying43, hone := by kernel_rfl, hC := by kernel_rfl, e0 := Tryz.underlying41, e1 := Tryz.underlying2, e2 := Tryz.underlying24, eU := Tryz.underlying5, cU := by kernel_rfl, bU := by kernel_rfl, e3 := Tryz.underlying22 }) Tryz.underlying22 h0
  have y0 := z0 (tmc.each_fit hsz (j := 0) rfl rfl)
  obtain ⟨a1, len1, cap1, rfl⟩ := okWide_slice Tryz.underlying23 (hval 1 23 v1 rfl rfl)
  have k1 := h1
  have lt1 : ∀ x ∈ p1, x.block < W.heap.size := by obtain ⟨m, hm⟩ := k1; exact DataW.trod_lt m _ _ _ hm
  obtain ⟨x1, w1, l1, m1, s1⟩ := tlvc.open_ins Tryz.underlying23 Tryz.underlying3 (by kernel_rfl) h1
  have r1 := tlvc.spots_reach8 hsz s1 (j := 1) rfl rfl Tryz.underlying23 (of_decide_eq_true (by kernel_rfl))
  obtain ⟨a2, len2, cap2, rfl⟩ := okWide_slice Tryz.underlying23 (hval 2 23 v2 rfl rfl)
  have k2 := h2
  have lt2 : ∀ x ∈ p2, x.block < W.heap.size := by obtain ⟨m, hm⟩ := k2; exact DataW.trod_lt m _ _ _ hm
  obtain ⟨x2, w2, l2, m2, s2⟩ := tlvc.open_ins Tryz.underlying23 Tryz.underlying3 (by kernel_rfl) h2
  have r2 := tlvc.spots_reach8 hsz s2 (j := 2) rfl rfl Tryz.underlying23 (of_decide_eq_true (by kernel_rfl))
  clear hA0 hval0
  have hT : txc.Tabs W := txc.tabs_of hL
  refine (walk a0 len0 cap0 x0 a1 len1 cap1 x1 a2 len2 cap2 x2 W e0 w0 l0 m0 y0 w1 l1 r1 w2 l2 r2 hT).mono fun e W' ⟨he, bel⟩ => ?_
  subst he
  exact ⟨_, rfl, _, _, _, [], _, [], hW', trodAll_mk1 (shut_bool Tryz.underlying4 _), (trodAll_cons_mk (Below.trod laidOut (by kernel_rfl) (of_decide_eq_true (by kernel_rfl)) k0 bel lt0) (trodAll_cons_mk (Below.trod laidOut (by kernel_rfl) (of_decide_eq_true (by kernel_rfl)) k1 bel lt1) (trodAll_cons_mk (Below.trod laidOut (by kernel_rfl) (of_decide_eq_true (by kernel_rfl)) k2 bel lt2) trodAll_mk0))), rfl, bel.frame _, fun h => by cases h⟩

theorem over : Rows.deriveGrowsRow.holds Tryz.pinned (OpenSpec.ofChange Rows.deriveGrowsSpec) :=
  OpenClaim.holds_of_cond 4 Tryz.f4 rfl rfl rfl rfl rfl rfl rfl ⟨rfl, rfl, rfl, rfl, rfl⟩ rfl rfl rfl rfl rfl (by kernel_rfl) Tryz.func4 (by kernel_rfl)
    (of_decide_eq_true (by kernel_rfl)) (by unfold Func.isWrapper; first | (rw [if_pos (by decide +kernel)]; kernel_rfl) | (rw [if_neg (by decide +kernel)]; exact ⟨rfl, rfl⟩))
    (fun os started H enc _ F => by rw [OpenClaim.pre_eq_preRow]; exact lifted os started H enc F)

theorem plain (f : FuncId) (fn : Func) (hf : Tryz.pinned.checked.prog.funcNamed "warder/warderlaw08.DeriveGrows" = some f) (hfn : Tryz.pinned.checked.prog.funcs[f]? = some fn) :
    false = Tryz.pinned.checked.prog.looks [] ∧ ∀ (j : Nat) t, fn.params[j]? = some t → Tryz.pinned.checked.prog.wantsStandIn t = false := by
  obtain rfl : f = 4 := Option.some.inj ((show Tryz.prog.funcNamed "warder/warderlaw08.DeriveGrows" = some 4 by kernel_rfl).symm.trans hf) |>.symm
  obtain rfl : fn = Tryz.f4 := (Option.some.inj (Tryz.func4.symm.trans hfn)).symm
  refine ⟨by kernel_rfl, fun j t ht => ?_⟩
  rw [Tryz.params4] at ht
  match j, ht with
    | 0, ht => obtain rfl : t = 22 := (Option.some.inj ht).symm; exact (show Tryz.prog.wantsStandIn 22 = false by kernel_rfl)
    | 1, ht => obtain rfl : t = 23 := (Option.some.inj ht).symm; exact (show Tryz.prog.wantsStandIn 23 = false by kernel_rfl)
    | 2, ht => obtain rfl : t = 23 := (Option.some.inj ht).symm; exact (show Tryz.prog.wantsStandIn 23 = false by kernel_rfl)
    | j + 3, ht => simp at ht

theorem proved : Rows.DeriveGrowsCardSaid :=
  Claim7.holds_tied_plain_at .later [] _ _ _ _ over (fun _ h => by cases h) (by kernel_rfl) (fun _ h => by cases h) deriveGrows_row_tie rfl ⟨rfl, rfl⟩ (by kernel_rfl) rfl plain (by kernel_rfl)
#print axioms proved
end Go.Proofs.YtlhogjigdmpokaaGreatDoor.deriveGrows
