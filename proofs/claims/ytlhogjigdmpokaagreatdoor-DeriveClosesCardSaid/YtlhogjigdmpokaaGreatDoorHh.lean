/- The document's Can. -/
import Derived.Test.YtlhogjigdmpokaaGreatDoorHg
namespace Go.Proofs.YtlhogjigdmpokaaGreatDoor.vtc
open Go.RowKit Go.Proofs.YtlhogjigdmpokaaGreatDoor.tlvc Go.Proofs.YtlhogjigdmpokaaGreatDoor.tmc Go.Proofs.YtlhogjigdmpokaaGreatDoor.rfc
set_option linter.unusedVariables false
theorem getD_mem {l : List Int} {i n : Nat} (hl : l.length = n) (hi : i < n) : l.getD i 0 ∈ l := by
  rw [List.getD_eq_getElem?_getD, List.getElem?_eq_getElem (by omega)]
  exact List.getElem_mem (by omega)
theorem take_int {l : List Int} {i n : Nat} (hl : l.length = n) (hi : i < n) : l.take (i + 1) = l.take i ++ [l.getD i 0] := by
  rw [List.take_succ_eq_append_getElem (by omega), List.getD_eq_getElem?_getD, List.getElem?_eq_getElem (by omega)]
  rfl
set_option maxRecDepth 100000 in
set_option maxHeartbeats 32000000 in
theorem rcan_any {Q : Nat → Prop} {rb : Nat} {ob : Option Nat} {L : List Tm} (w : World) (hV : RVl Q w rb ob L) (hQ : ∀ g, Q g → g < w.heap.size) (T : Tbl L) (A : Option Addr) (n c : Nat) (xs : List Int) (hX : Ins w A n xs) (hnc : n ≤ c) (hcm : c ≤ maxLen) (B : Option Addr) (m d : Nat) (bs : List Int) (hB : Bys w B m bs) (hmd : m ≤ d) (hdm : d ≤ maxLen) (hm : m ≤ 100000) :
    Calls Tryz.prog 14 #[.pointer (some ⟨rb, 0, none⟩), .slice A n c, .slice B m d] w fun e w' => e = .returned (.bool (canF L xs bs)) ∧ Below w.heap.size w w' := by
  have hcl := rclosure_any w hV hQ T A n c xs hX hnc hcm
  obtain ⟨N, hNN⟩ : ∃ x, L.length = x := ⟨_, rfl⟩
  have hmn := fun W (hW : Below w.heap.size w W) => rmentions_any B m d bs (N : Int) W (hB.below hW) hmd hdm hm
  have hcf : canF L xs bs = decide (∀ y ∈ mentionsF bs (N : Int), y ∈ clF L xs) := by unfold canF; rw [hNN]
  obtain ⟨ANS, hANS⟩ : ∃ x, canF L xs bs = x := ⟨_, rfl⟩
  rw [hANS] at hcf ⊢
  obtain ⟨ys, hys⟩ : ∃ z, clF L xs = z := ⟨_, rfl⟩
  obtain ⟨mz, hmz⟩ : ∃ z, mentionsF bs (N : Int) = z := ⟨_, rfl⟩
  rw [hys] at hcl hcf
  rw [hmz] at hcf hmn
  obtain ⟨ly, hly⟩ : ∃ l, ys.length = l := ⟨_, rfl⟩
  obtain ⟨lm, hlm⟩ : ∃ l, mz.length = l := ⟨_, rfl⟩
  have HC := Lib.hid hcl
  have HMN := Lib.hid hmn
  have HV := Lib.hid (And.intro hV hNN)
  have HA := Lib.hid (And.intro hcf (And.intro hly hlm))
  clear hcl hmn hV hQ T hX hB hcf hANS hys hmz hNN hcm hdm
  go_enter Tryz.func14, Tryz.ntmps14
  go_wp2_with fail
  refine HC.out.mono ?_
  rintro e w2 ⟨A2, c2, rfl, i2, ⟨l2, m2⟩, b2, _⟩
  obtain ⟨A9, c9, x0, x2, x33, _, _⟩ := (HV.out.1.below b2).at
  rw [HV.out.2] at x0 x2
  have HM := Lib.hid (HMN.out w2 b2)
  have h29 : c2 ≤ 9223372036854775807 := by unfold maxLen at m2; omega
  rw [hly] at i2 l2 ⊢
  have H2 := Lib.hid (And.intro i2 b2)
  clear i2 b2 m2 HC HMN HV
  go_wp2_with fail
  refine HM.out.mono ?_
  rintro e w3 ⟨A3, c3, rfl, i3, ⟨l3, m3⟩, b3⟩
  have h39 : c3 ≤ 9223372036854775807 := by unfold maxLen at m3; omega
  rw [hlm] at i3 l3 ⊢
  have H3 := Lib.hid (And.intro i3 (And.intro (H2.out.1.below b3) (blw H2.out.2 b3)))
  clear i3 b3 m3 HM H2 x0 x2 x33 hly hlm
  go_wp2_with fail
  go_loopg [9] (lm + 1) (fun gk s9 wx => ∃ (i : Nat), s9 = .int .i64 (i : Nat) ∧ i ≤ lm ∧ lm - i < gk ∧ Hid (Below w3.heap.size w3 wx ∧ ∀ y ∈ mz.take i, y ∈ ys))
  case atStart => exact ⟨0, rfl, by omega, by omega, Lib.hid ⟨Below.refl _ _, by simp⟩⟩
  case round =>
    obtain ⟨i, rfl, hi, hgk, HR⟩ := hrel
    by_cases hlt : i < lm
    · have hltz : (i : Int) < (lm : Int) := by omega
      have hi0 : (0 : Int) ≤ (i : Int) := by omega
      obtain ⟨ga, rfl⟩ : ∃ g', gk = g' + 1 := ⟨gk - 1, by omega⟩
      have HF := Lib.hid (And.intro (show i + 1 ≤ lm from hlt) (show lm - (i + 1) < ga by omega))
      obtain ⟨b, off, rfl, hbw, hc⟩ := H3.out.1.2.2 (by omega)
      have hy := hc i hlt
      obtain ⟨x, hx⟩ : ∃ x, mz.getD i 0 = x := ⟨_, rfl⟩
      rw [hx] at hy
      have HY := Lib.hid (And.intro hy hx)
      clear hc hy hx hgk hi hbw
      go_wp2_with fail
      go_loopg [10, 11] (ly + 1) (fun gk s10 s11 wx => ∃ (k : Nat) (th : Bool), s10 = .bool th ∧ s11 = .int .i64 (k : Nat) ∧ k ≤ ly ∧ ly - k < gk ∧ Hid (Below w3.heap.size w3 wx ∧ th = decide (x ∈ ys.take k)))
      case atStart => exact ⟨0, false, rfl, rfl, by omega, by omega, Lib.hid ⟨HR.out.1, by simp⟩⟩
      case round =>
        obtain ⟨k, th, rfl, rfl, hk, hgk, HQ⟩ := hrel
        by_cases hkl : k < ly
        · have hklz : (k : Int) < (ly : Int) := by omega
          have hk0 : (0 : Int) ≤ (k : Int) := by omega
          obtain ⟨gk', rfl⟩ : ∃ g', gk = g' + 1 := ⟨gk - 1, by omega⟩
          have HN := Lib.hid (And.intro (show k + 1 ≤ ly from hkl) (show ly - (k + 1) < gk' by omega))
          obtain ⟨b2, off2, rfl, hbw2, hc2⟩ := H3.out.2.1.2.2 (by omega)
          have z0 := cell_on HQ.out.1 (hc2 k hkl)
          have y0 := cell_on HQ.out.1 HY.out.1
          have hst := take_int HA.out.2.1 hkl
          obtain ⟨y, hyk⟩ : ∃ y, ys.getD k 0 = y := ⟨_, rfl⟩
          rw [hyk] at z0 hst
          have hth : decide (x ∈ ys.take (k + 1)) = (th || decide (y = x)) := by
            rw [hst, HQ.out.2, Bool.eq_iff_iff, Bool.or_eq_true, decide_eq_true_iff, decide_eq_true_iff, decide_eq_true_iff, List.mem_append, List.mem_singleton]
            exact ⟨Or.imp id Eq.symm, Or.imp id Eq.symm⟩
          have z1 := fun q os => cell_regrown z0 q os
          have y1 := fun q os => cell_regrown y0 q os
          have HT := Lib.hid hth
          clear hc2 hbw2 hst hyk hth z0 y0 hgk
          cases th
          · by_cases hxy : y = x
            · have hd : decide (y = x) = true := decide_eq_true hxy
              have HD := Lib.hid hd
              subst hxy
              clear hd
              go_wp2_with fail
              refine wp_region_quiet_below (by kernel_rfl) (by kernel_rfl) ?_
              repeat (go_big_quiet_step (fail))
              refine wpQuiet_nil ?_
              intro _ hw'
              obtain ⟨⟨nq, osq⟩, hw''⟩ := hw'
              subst hw''
              have HE := Lib.hid (HQ.out.1.trans ((below_regrown wr nq osq).mono HQ.out.1.size))
              clear z1 y1
              go_wp2_with fail
              go_roundg gk'
              case measure => omega
              case rel => exact ⟨k + 1, true, rfl, by go_num, HN.out.1, HN.out.2, Lib.hid ⟨HE.out, by rw [HT.out]; simp⟩⟩
            · have hd : decide (y = x) = false := decide_eq_false hxy
              have HBE := Lib.hid (beq_eq_false_iff_ne.2 hxy)
              go_wp2_with fail
              refine wp_region_quiet_below (by kernel_rfl) (by kernel_rfl) ?_
              repeat (go_big_quiet_step (fail))
              refine wpQuiet_nil ?_
              intro _ hw'
              obtain ⟨⟨nq, osq⟩, hw''⟩ := hw'
              subst hw''
              have HE := Lib.hid (HQ.out.1.trans ((below_regrown wr nq osq).mono HQ.out.1.size))
              clear z1 y1
              go_wp2_with fail
              go_roundg gk'
              case measure => omega
              case rel => exact ⟨k + 1, false, by rw [HBE.out], by go_num, HN.out.1, HN.out.2, Lib.hid ⟨HE.out, by rw [HT.out, hd]; rfl⟩⟩
          · go_wp2_with fail
            refine wp_region_quiet_below (by kernel_rfl) (by kernel_rfl) ?_
            repeat (go_big_quiet_step (fail))
            refine wpQuiet_nil ?_
            intro _ hw'
            obtain ⟨⟨nq, osq⟩, hw''⟩ := hw'
            subst hw''
            have HE := Lib.hid (HQ.out.1.trans ((below_regrown wr nq osq).mono HQ.out.1.size))
            clear z1 y1
            go_wp2_with fail
            go_roundg gk'
            case measure => omega
            case rel => exact ⟨k + 1, true, rfl, by go_num, HN.out.1, HN.out.2, Lib.hid ⟨HE.out, by rw [HT.out]; rfl⟩⟩
        · obtain rfl : ly = k := by omega
          have hklz : ¬ (ly : Int) < (ly : Int) := by omega
          have hq := HQ.out.2
          rw [List.take_of_length_le (by rw [HA.out.2.1]; exact Nat.le_refl _)] at hq
          cases th
          · have hans : ANS = false := by
              rw [HA.out.1]
              refine decide_eq_false fun h => ?_
              have h1 := h _ (getD_mem HA.out.2.2 hlt)
              rw [HY.out.2] at h1
              rw [decide_eq_true h1] at hq
              cases hq
            have HE := Lib.hid (And.intro hans (H3.out.2.2.trans (HQ.out.1.mono H3.out.2.2.size)))
            clear hans hq hgk
            go_wp2_with fail
            go_ret
            exact ⟨by rw [HE.out.1]; rfl, HE.out.2⟩
          · have hin : x ∈ ys := of_decide_eq_true hq.symm
            have HI := Lib.hid hin
            clear hin hq hgk
            go_wp2_with fail
            go_roundg ga
            case measure => omega
            case rel => exact ⟨i + 1, by go_num, HF.out.1, HF.out.2, Lib.hid ⟨HQ.out.1, fun y hy => by
              rw [take_int HA.out.2.2 hlt, HY.out.2] at hy
              rcases List.mem_append.1 hy with h | h
              · exact HR.out.2 y h
              · rw [List.mem_singleton.1 h]; exact HI.out⟩⟩
    · obtain rfl : lm = i := by omega
      have hltz : ¬ (lm : Int) < (lm : Int) := by omega
      have hans : ANS = true := by
        rw [HA.out.1]
        refine decide_eq_true fun y hy => HR.out.2 y ?_
        rw [List.take_of_length_le (by rw [HA.out.2.2]; exact Nat.le_refl _)]
        exact hy
      have HE := Lib.hid (And.intro hans (H3.out.2.2.trans (HR.out.1.mono H3.out.2.2.size)))
      clear hans hgk
      go_wp2_with fail
      go_ret
      exact ⟨by rw [HE.out.1]; rfl, HE.out.2⟩
end Go.Proofs.YtlhogjigdmpokaaGreatDoor.vtc
