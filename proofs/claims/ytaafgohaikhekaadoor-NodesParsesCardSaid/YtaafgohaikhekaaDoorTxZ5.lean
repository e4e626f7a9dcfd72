/- The document's own Time, walked: years of four digits. -/
import Derived.Test.YtaafgohaikhekaaDoorTxZ4
namespace Go.Proofs.YtaafgohaikhekaaDoor.txc
open Go.RowKit Go.Proofs.YtaafgohaikhekaaDoor.txm Go.Proofs.YtaafgohaikhekaaDoor.tlvc
set_option linter.unusedVariables false
set_option linter.unusedSimpArgs false

set_option maxRecDepth 100000 in
set_option maxHeartbeats 8000000 in
theorem refTime_24 (A : Option Addr) (cap : Nat) (xs : List Int) (w : World) (hx : Bys w A 15 xs) (hc : 15 ≤ cap) (hm : cap ≤ 9223372036854775807) :
    Calls Tryd.prog 44 #[.int .u8 24, .slice A 15 cap] w (TimeIs 24 xs w) := by
  have hl : xs.length = 15 := hx.1
  obtain ⟨p, e0⟩ : ∃ p, dig2 (xs.getD 0 0) (xs.getD 1 0) = p := ⟨_, rfl⟩
  have b0 := dig2_bd (xs.getD 0 0) (xs.getD 1 0)
  rw [e0] at b0
  obtain ⟨b0, b0'⟩ := b0
  obtain ⟨q, e1⟩ : ∃ q, dig2 (xs.getD 2 0) (xs.getD 3 0) = q := ⟨_, rfl⟩
  have b1 := dig2_bd (xs.getD 2 0) (xs.getD 3 0)
  rw [e1] at b1
  obtain ⟨b1, b1'⟩ := b1
  obtain ⟨m, e2⟩ : ∃ m, dig2 (xs.getD 4 0) (xs.getD 5 0) = m := ⟨_, rfl⟩
  have b2 := dig2_bd (xs.getD 4 0) (xs.getD 5 0)
  rw [e2] at b2
  obtain ⟨b2, b2'⟩ := b2
  obtain ⟨d, e3⟩ : ∃ d, dig2 (xs.getD 6 0) (xs.getD 7 0) = d := ⟨_, rfl⟩
  have b3 := dig2_bd (xs.getD 6 0) (xs.getD 7 0)
  rw [e3] at b3
  obtain ⟨b3, b3'⟩ := b3
  obtain ⟨h, e4⟩ : ∃ h, dig2 (xs.getD 8 0) (xs.getD 9 0) = h := ⟨_, rfl⟩
  have b4 := dig2_bd (xs.getD 8 0) (xs.getD 9 0)
  rw [e4] at b4
  obtain ⟨b4, b4'⟩ := b4
  obtain ⟨n, e5⟩ : ∃ n, dig2 (xs.getD 10 0) (xs.getD 11 0) = n := ⟨_, rfl⟩
  have b5 := dig2_bd (xs.getD 10 0) (xs.getD 11 0)
  rw [e5] at b5
  obtain ⟨b5, b5'⟩ := b5
  obtain ⟨s, e6⟩ : ∃ s, dig2 (xs.getD 12 0) (xs.getD 13 0) = s := ⟨_, rfl⟩
  have b6 := dig2_bd (xs.getD 12 0) (xs.getD 13 0)
  rw [e6] at b6
  obtain ⟨b6, b6'⟩ := b6
  obtain ⟨z, ez⟩ : ∃ z, xs.getD 14 0 = z := ⟨_, rfl⟩
  have bz := hx.2.1.getD 14
  rw [ez] at bz
  obtain ⟨bz0, bz1⟩ := bz
  have hP := plain24 hl e0 e1 e2 e3 e4 e5 e6 ez
  unfold TimeIs
  obtain ⟨N, hN⟩ : ∃ N, timeN 24 xs = N := ⟨_, rfl⟩
  obtain ⟨E, hE⟩ : ∃ E, timeE 24 xs = E := ⟨_, rfl⟩
  rw [hN, hE] at hP
  rw [hN, hE]
  clear hN hE
  have HQ0 := Lib.hid e0
  have HQ1 := Lib.hid e1
  have hv0 : dig2 ((xs.drop 4).getD 0 0) ((xs.drop 4).getD (0 + 1) 0) = m := by rw [getD_drop' xs 4 0 4 rfl, getD_drop' xs 4 (0 + 1) 5 rfl]; exact e2
  have HV0 := Lib.hid hv0
  have hv1 : dig2 ((xs.drop 4).getD 2 0) ((xs.drop 4).getD (2 + 1) 0) = d := by rw [getD_drop' xs 4 2 6 rfl, getD_drop' xs 4 (2 + 1) 7 rfl]; exact e3
  have HV1 := Lib.hid hv1
  have hv2 : dig2 ((xs.drop 4).getD 4 0) ((xs.drop 4).getD (4 + 1) 0) = h := by rw [getD_drop' xs 4 4 8 rfl, getD_drop' xs 4 (4 + 1) 9 rfl]; exact e4
  have HV2 := Lib.hid hv2
  have hv3 : dig2 ((xs.drop 4).getD 6 0) ((xs.drop 4).getD (6 + 1) 0) = n := by rw [getD_drop' xs 4 6 10 rfl, getD_drop' xs 4 (6 + 1) 11 rfl]; exact e5
  have HV3 := Lib.hid hv3
  have hv4 : dig2 ((xs.drop 4).getD 8 0) ((xs.drop 4).getD (8 + 1) 0) = s := by rw [getD_drop' xs 4 8 12 rfl, getD_drop' xs 4 (8 + 1) 13 rfl]; exact e6
  have HV4 := Lib.hid hv4
  have hvz : (xs.drop 4).getD 10 0 = z := by rw [getD_drop' xs 4 10 14 rfl]; exact ez
  have HVZ := Lib.hid hvz
  have hcut := hx.cut (k := 4) (cap := cap) (by omega) hc
  rw [if_neg (by omega)] at hcut
  obtain ⟨b, off, rfl, hblt, hcells⟩ := hx.2.2 (by omega)
  have hc2 : ¬ (cap = 4) := by omega
  clear hcells hblt ez e0 e1 e2 e3 e4 e5 e6 hv0 hv1 hv2 hv3 hv4 hvz
  have HL : True := trivial
  have HM : True := trivial
  go_enter Tryd.func44, Tryd.ntmps44
  go_wp2_with fail
  refine (number_at _ _ _ _ 0 p _ _ (by rfl) hx (by omega) (by omega) HQ0.out).mono ?_
  rintro e wp ⟨rfl, hB⟩
  go_wp2_with fail
  refine (number_at _ _ _ _ 2 q _ _ (by rfl) (hx.below hB) (by omega) (by omega) HQ1.out).mono ?_
  rintro e wq0 ⟨rfl, hbn⟩
  have hB' := then_ hB hbn
  clear hB hbn
  have hB := hB'
  clear hB'
  clear HQ0 HQ1 hx
  have HP := Lib.hid hP
  clear hP
  by_cases j0 : p < 0
  · obtain ⟨rfl, rfl⟩ := HP.out.2 (fun q => by obtain ⟨⟨_, _, _⟩, _⟩ := q; omega)
    clear HP HL HM
    go_wp2
    go_ret2
    exact ⟨rfl, hB⟩
  · by_cases j1 : q < 0
    · obtain ⟨rfl, rfl⟩ := HP.out.2 (fun q => by obtain ⟨⟨_, _, _⟩, _⟩ := q; omega)
      clear HP HL HM
      go_wp2
      go_ret2
      exact ⟨rfl, hB⟩
    · by_cases j2 : 100 * p + q < 2050
      · obtain ⟨rfl, rfl⟩ := HP.out.2 (fun q => by obtain ⟨⟨_, _, _⟩, _⟩ := q; omega)
        clear HP HL HM
        go_wp2
        go_ret2
        exact ⟨rfl, hB⟩
      · go_wp2_with fail
        refine (number_at _ _ _ _ 0 m _ _ (by rfl) (hcut.below hB) (by omega) (by omega) HV0.out).mono ?_
        rintro e wn0 ⟨rfl, hbn⟩
        have hB' := then_ hB hbn
        clear hB hbn
        have hB := hB'
        clear hB'
        go_wp2_with fail
        refine (number_at _ _ _ _ 2 d _ _ (by rfl) (hcut.below hB) (by omega) (by omega) HV1.out).mono ?_
        rintro e wn1 ⟨rfl, hbn⟩
        have hB' := then_ hB hbn
        clear hB hbn
        have hB := hB'
        clear hB'
        go_wp2_with fail
        refine (number_at _ _ _ _ 4 h _ _ (by rfl) (hcut.below hB) (by omega) (by omega) HV2.out).mono ?_
        rintro e wn2 ⟨rfl, hbn⟩
        have hB' := then_ hB hbn
        clear hB hbn
        have hB := hB'
        clear hB'
        go_wp2_with fail
        refine (number_at _ _ _ _ 6 n _ _ (by rfl) (hcut.below hB) (by omega) (by omega) HV3.out).mono ?_
        rintro e wn3 ⟨rfl, hbn⟩
        have hB' := then_ hB hbn
        clear hB hbn
        have hB := hB'
        clear hB'
        go_wp2_with fail
        refine (number_at _ _ _ _ 8 s _ _ (by rfl) (hcut.below hB) (by omega) (by omega) HV4.out).mono ?_
        rintro e wn4 ⟨rfl, hbn⟩
        have hB' := then_ hB hbn
        clear hB hbn
        have hB := hB'
        clear hB'
        have hz := (hcut.below hB).2.2 (by omega)
        obtain ⟨b2, off2, hA2, hblt2, hcells2⟩ := hz
        cases hA2
        have hz := hcells2 10 (by omega)
        rw [HVZ.out] at hz
        clear hcells2 hblt2 hcut HV0 HV1 HV2 HV3 HV4 HVZ
        by_cases k0 : z = 90
        · subst k0
          by_cases k1 : m < 1
          · obtain ⟨rfl, rfl⟩ := HP.out.2 (fun q => by obtain ⟨_, _, ⟨_, _⟩, _, ⟨_, _⟩, ⟨_, _⟩, ⟨_, _⟩, _⟩ := q; omega)
            clear HP HL HM
            go_wp2
            go_ret2
            exact ⟨rfl, hB⟩
          · by_cases k2 : 12 < m
            · obtain ⟨rfl, rfl⟩ := HP.out.2 (fun q => by obtain ⟨_, _, ⟨_, _⟩, _, ⟨_, _⟩, ⟨_, _⟩, ⟨_, _⟩, _⟩ := q; omega)
              clear HP HL HM
              go_wp2
              go_ret2
              exact ⟨rfl, hB⟩
            · by_cases k3 : d < 1
              · obtain ⟨rfl, rfl⟩ := HP.out.2 (fun q => by obtain ⟨_, _, ⟨_, _⟩, _, ⟨_, _⟩, ⟨_, _⟩, ⟨_, _⟩, _⟩ := q; omega)
                clear HP HL HM
                go_wp2
                go_ret2
                exact ⟨rfl, hB⟩
              · by_cases k4 : h < 0
                · obtain ⟨rfl, rfl⟩ := HP.out.2 (fun q => by obtain ⟨_, _, ⟨_, _⟩, _, ⟨_, _⟩, ⟨_, _⟩, ⟨_, _⟩, _⟩ := q; omega)
                  clear HP HL HM
                  go_wp2
                  go_ret2
                  exact ⟨rfl, hB⟩
                · by_cases k5 : 23 < h
                  · obtain ⟨rfl, rfl⟩ := HP.out.2 (fun q => by obtain ⟨_, _, ⟨_, _⟩, _, ⟨_, _⟩, ⟨_, _⟩, ⟨_, _⟩, _⟩ := q; omega)
                    clear HP HL HM
                    go_wp2
                    go_ret2
                    exact ⟨rfl, hB⟩
                  · by_cases k6 : n < 0
                    · obtain ⟨rfl, rfl⟩ := HP.out.2 (fun q => by obtain ⟨_, _, ⟨_, _⟩, _, ⟨_, _⟩, ⟨_, _⟩, ⟨_, _⟩, _⟩ := q; omega)
                      clear HP HL HM
                      go_wp2
                      go_ret2
                      exact ⟨rfl, hB⟩
                    · by_cases k7 : 59 < n
                      · obtain ⟨rfl, rfl⟩ := HP.out.2 (fun q => by obtain ⟨_, _, ⟨_, _⟩, _, ⟨_, _⟩, ⟨_, _⟩, ⟨_, _⟩, _⟩ := q; omega)
                        clear HP HL HM
                        go_wp2
                        go_ret2
                        exact ⟨rfl, hB⟩
                      · by_cases k8 : s < 0
                        · obtain ⟨rfl, rfl⟩ := HP.out.2 (fun q => by obtain ⟨_, _, ⟨_, _⟩, _, ⟨_, _⟩, ⟨_, _⟩, ⟨_, _⟩, _⟩ := q; omega)
                          clear HP HL HM
                          go_wp2
                          go_ret2
                          exact ⟨rfl, hB⟩
                        · by_cases k9 : 59 < s
                          · obtain ⟨rfl, rfl⟩ := HP.out.2 (fun q => by obtain ⟨_, _, ⟨_, _⟩, _, ⟨_, _⟩, ⟨_, _⟩, ⟨_, _⟩, _⟩ := q; omega)
                            clear HP HL HM
                            go_wp2
                            go_ret2
                            exact ⟨rfl, hB⟩
                          · obtain ⟨M, hM⟩ : ∃ M, mon (lp (100 * p + q)) (m - 1).toNat = M := ⟨_, rfl⟩
                            obtain ⟨L, hL⟩ : ∃ L, lp (100 * p + q) = L := ⟨_, rfl⟩
                            have hl01 := lp_01 (y := (100 * p + q)) (by omega)
                            rw [hL] at hM hl01
                            obtain ⟨hl0, hl1⟩ := hl01
                            have hMb := mon_bd hl0 hl1 (m - 1).toNat
                            rw [hM] at hMb
                            obtain ⟨hMb0, hMb1⟩ := hMb
                            have HL2 := Lib.hid hL
                            have HM2 := Lib.hid hM
                            clear hL hM HL HM
                            go_wp2_with fail
                            refine (month_at _ _ (m - 1).toNat M _ (by omega) (by omega) (by omega) (by omega) (by rw [HL2.out]; exact HM2.out)).mono ?_
                            rintro e wq ⟨rfl, hbn⟩
                            have hB' := then_ hB hbn
                            clear hB hbn hz
                            have hB := hB'
                            clear hB'
                            by_cases km : M < d
                            · obtain ⟨rfl, rfl⟩ := HP.out.2 (fun q => by
                                obtain ⟨_, _, ⟨_, _⟩, _, ⟨_, _⟩, ⟨_, _⟩, ⟨_, _⟩, q⟩ := q
                                rw [HL2.out, HM2.out] at q
                                omega)
                              clear HP HL2 HM2
                              go_wp2
                              go_ret2
                              exact ⟨rfl, hB⟩
                            · have hok := HP.out.1 ⟨by omega, by omega, by omega⟩ ⟨by first | exact k0 | rfl, ⟨by omega, by omega⟩, by omega, ⟨by omega, by omega⟩, ⟨by omega, by omega⟩, ⟨by omega, by omega⟩, by rw [HL2.out, HM2.out]; omega⟩
                              obtain ⟨rfl, rfl⟩ := hok
                              have hdb := dto_bd (y := (100 * p + q)) (by omega) (by omega)
                              obtain ⟨hdb0, hdb1⟩ := hdb
                              have hsec : ∀ k : Nat, (k : Int) + 1 = m → (dto (100 * p + q) - 7305 + d - 1 + cum L k) * 86400 + (3600 * h + 60 * n + s) = secAt (100 * p + q) m d h n s := fun k hk => by
                                have hix : mIx m = k := by unfold mIx; omega
                                unfold secAt daysAt
                                rw [hix, HL2.out]
                                omega
                              have HS := Lib.hid hsec
                              clear HP HM2 hsec
                              go_wp2_with fail
                              refine (days_any _ _ (by omega) (by omega)).mono ?_
                              rintro e w' ⟨rfl, rfl⟩
                              obtain ⟨DY, hDY⟩ : ∃ DY, dto (100 * p + q) = DY := ⟨_, rfl⟩
                              rw [hDY] at hdb0 hdb1 HS ⊢
                              clear hDY
                              go_wp2_with fail
                              go_outline
                              go_loopw [16, 17] (fun t16 t17 wr => ∃ k : Nat, k < 12 ∧ (k : Int) + 1 ≤ m ∧ t16 = .int .i64 (DY - 7305 + d - 1 + cum L k) ∧ t17 = .int .i64 ((k : Int) + 1) ∧ Below w.heap.size w wr) (fun _ t17 _ => 13 - (intOf t17).toNat)
                              case atStart => exact ⟨0, by omega, by omega, by simp [cum], rfl, hB⟩
                              case round =>
                                obtain ⟨k, hk, hkm, rfl, rfl, hbw⟩ := hrel
                                have hcs := cum_step L hk
                                have hcb := cum_bd hl0 hl1 k
                                have hmbd := mon_bd hl0 hl1 k
                                obtain ⟨hcb0, hcb1⟩ := hcb
                                obtain ⟨hmbd0, hmbd1⟩ := hmbd
                                by_cases hc : (k : Int) + 1 < m
                                · have hk11 : k + 1 < 12 := by omega
                                  obtain ⟨CK, hCK⟩ : ∃ CK, cum L k = CK := ⟨_, rfl⟩
                                  obtain ⟨MK, hMK⟩ : ∃ MK, mon L k = MK := ⟨_, rfl⟩
                                  rw [hCK] at hcs hcb0 hcb1 ⊢
                                  rw [hMK] at hcs hmbd0 hmbd1
                                  have HCS := Lib.hid hcs
                                  have HMK := Lib.hid hMK
                                  clear hcs hMK hCK
                                  go_wp2_with fail
                                  refine (month_at _ _ k MK _ (by omega) (by omega) hk rfl (by rw [HL2.out]; exact HMK.out)).mono ?_
                                  rintro e w1 ⟨rfl, hbm⟩
                                  have hbw1 := then_ hbw hbm
                                  clear hbw hbm
                                  go_wp2_with fail
                                  go_round
                                  case rel => exact ⟨k + 1, by omega, by omega, by rw [HCS.out]; exact congrArg (Value.int .i64) (by omega), by simp, hbw1⟩
                                  case measure => simp [intOf]; omega
                                · have hkm2 : (k : Int) + 1 = m := by omega
                                  have hs := HS.out k hkm2
                                  obtain ⟨CK, hCK⟩ : ∃ CK, cum L k = CK := ⟨_, rfl⟩
                                  rw [hCK] at hs hcb0 hcb1 ⊢
                                  have HS2 := Lib.hid hs
                                  clear hcs hCK HS hs
                                  go_wp2
                                  go_ret2
                                  exact ⟨two_ret (by rw [← HS2.out]), hbw⟩
        · have k0' : (z == 90) = false := by simpa using k0
          obtain ⟨rfl, rfl⟩ := HP.out.2 (fun q => by obtain ⟨_, _, ⟨_, _⟩, _, ⟨_, _⟩, ⟨_, _⟩, ⟨_, _⟩, _⟩ := q; exact k0 (by assumption))
          clear HP HL HM
          go_wp2
          go_ret2
          exact ⟨rfl, hB⟩
end Go.Proofs.YtaafgohaikhekaaDoor.txc
