/- The document's own Time, walked: the years from 1950's place on. -/
import Derived.Test.YtaafgohaikhekaaDoorTxZ3
namespace Go.Proofs.YtaafgohaikhekaaDoor.txc
open Go.RowKit Go.Proofs.YtaafgohaikhekaaDoor.txm Go.Proofs.YtaafgohaikhekaaDoor.tlvc
set_option linter.unusedVariables false
set_option linter.unusedSimpArgs false

set_option maxRecDepth 100000 in
set_option maxHeartbeats 8000000 in
theorem refTime_23b (A : Option Addr) (cap : Nat) (xs : List Int) (w : World) (hx : Bys w A 13 xs) (hc : 13 ≤ cap) (hm : cap ≤ 9223372036854775807) (hco : 50 ≤ dig2 (xs.getD 0 0) (xs.getD 1 0)) :
    Calls Tryd.prog 44 #[.int .u8 23, .slice A 13 cap] w (TimeIs 23 xs w) := by
  have hl : xs.length = 13 := hx.1
  obtain ⟨p, e0⟩ : ∃ p, dig2 (xs.getD 0 0) (xs.getD 1 0) = p := ⟨_, rfl⟩
  have b0 := dig2_bd (xs.getD 0 0) (xs.getD 1 0)
  rw [e0] at b0
  obtain ⟨b0, b0'⟩ := b0
  obtain ⟨m, e1⟩ : ∃ m, dig2 (xs.getD 2 0) (xs.getD 3 0) = m := ⟨_, rfl⟩
  have b1 := dig2_bd (xs.getD 2 0) (xs.getD 3 0)
  rw [e1] at b1
  obtain ⟨b1, b1'⟩ := b1
  obtain ⟨d, e2⟩ : ∃ d, dig2 (xs.getD 4 0) (xs.getD 5 0) = d := ⟨_, rfl⟩
  have b2 := dig2_bd (xs.getD 4 0) (xs.getD 5 0)
  rw [e2] at b2
  obtain ⟨b2, b2'⟩ := b2
  obtain ⟨h, e3⟩ : ∃ h, dig2 (xs.getD 6 0) (xs.getD 7 0) = h := ⟨_, rfl⟩
  have b3 := dig2_bd (xs.getD 6 0) (xs.getD 7 0)
  rw [e3] at b3
  obtain ⟨b3, b3'⟩ := b3
  obtain ⟨n, e4⟩ : ∃ n, dig2 (xs.getD 8 0) (xs.getD 9 0) = n := ⟨_, rfl⟩
  have b4 := dig2_bd (xs.getD 8 0) (xs.getD 9 0)
  rw [e4] at b4
  obtain ⟨b4, b4'⟩ := b4
  obtain ⟨s, e5⟩ : ∃ s, dig2 (xs.getD 10 0) (xs.getD 11 0) = s := ⟨_, rfl⟩
  have b5 := dig2_bd (xs.getD 10 0) (xs.getD 11 0)
  rw [e5] at b5
  obtain ⟨b5, b5'⟩ := b5
  obtain ⟨z, ez⟩ : ∃ z, xs.getD 12 0 = z := ⟨_, rfl⟩
  have bz := hx.2.1.getD 12
  rw [ez] at bz
  obtain ⟨bz0, bz1⟩ := bz
  have hP := fun (Y : Int) (hY : (0 ≤ p ∧ p < 50 → Y = 2000 + p) ∧ (50 ≤ p → Y = 1900 + p)) => plain23 hl e0 e1 e2 e3 e4 e5 ez (Y := Y) hY
  unfold TimeIs
  obtain ⟨N, hN⟩ : ∃ N, timeN 23 xs = N := ⟨_, rfl⟩
  obtain ⟨E, hE⟩ : ∃ E, timeE 23 xs = E := ⟨_, rfl⟩
  rw [hN, hE]
  simp only [hN, hE] at hP
  clear hN hE
  have HQ0 := Lib.hid e0
  have hv0 : dig2 ((xs.drop 2).getD 0 0) ((xs.drop 2).getD (0 + 1) 0) = m := by rw [getD_drop' xs 2 0 2 rfl, getD_drop' xs 2 (0 + 1) 3 rfl]; exact e1
  have HV0 := Lib.hid hv0
  have hv1 : dig2 ((xs.drop 2).getD 2 0) ((xs.drop 2).getD (2 + 1) 0) = d := by rw [getD_drop' xs 2 2 4 rfl, getD_drop' xs 2 (2 + 1) 5 rfl]; exact e2
  have HV1 := Lib.hid hv1
  have hv2 : dig2 ((xs.drop 2).getD 4 0) ((xs.drop 2).getD (4 + 1) 0) = h := by rw [getD_drop' xs 2 4 6 rfl, getD_drop' xs 2 (4 + 1) 7 rfl]; exact e3
  have HV2 := Lib.hid hv2
  have hv3 : dig2 ((xs.drop 2).getD 6 0) ((xs.drop 2).getD (6 + 1) 0) = n := by rw [getD_drop' xs 2 6 8 rfl, getD_drop' xs 2 (6 + 1) 9 rfl]; exact e4
  have HV3 := Lib.hid hv3
  have hv4 : dig2 ((xs.drop 2).getD 8 0) ((xs.drop 2).getD (8 + 1) 0) = s := by rw [getD_drop' xs 2 8 10 rfl, getD_drop' xs 2 (8 + 1) 11 rfl]; exact e5
  have HV4 := Lib.hid hv4
  have hvz : (xs.drop 2).getD 10 0 = z := by rw [getD_drop' xs 2 10 12 rfl]; exact ez
  have HVZ := Lib.hid hvz
  have hcut := hx.cut (k := 2) (cap := cap) (by omega) hc
  rw [if_neg (by omega)] at hcut
  obtain ⟨b, off, rfl, hblt, hcells⟩ := hx.2.2 (by omega)
  have hc2 : ¬ (cap = 2) := by omega
  rw [e0] at hco
  clear hcells hblt ez e0 e1 e2 e3 e4 e5 hv0 hv1 hv2 hv3 hv4 hvz
  have HL : True := trivial
  have HM : True := trivial
  go_enter Tryd.func44, Tryd.ntmps44
  go_wp2_with fail
  refine (number_at _ _ _ _ 0 p _ _ (by rfl) hx (by omega) (by omega) HQ0.out).mono ?_
  rintro e wp ⟨rfl, hB⟩
  clear HQ0 hx
  have j0 : ¬ p < 0 := by omega
  have j1 : ¬ p < 50 := by omega
  have HP := Lib.hid (hP (1900 + p) ⟨fun _ => by omega, fun _ => rfl⟩)
  clear hP
  go_wp2_with fail
  refine (number_at _ _ _ _ 0 m _ _ (by rfl) (hcut.below hB) (by omega) (by omega) HV0.out).mono ?_
  rintro e wn0 ⟨rfl, hbn⟩
  have hB' := then_ hB hbn
  clear hB hbn
  have hB := hB'
  clear hB'
  go_wp2_with fail
  refine (number_at _ _ _ _ 2 d _ _ (by rfl) (hcut.below hB) (by omega) (by omega) HV1.out).mono ?_
  rintro e wn1 ⟨rfl, hbn⟩
  have hB' := then_ hB hbn
  clear hB hbn
  have hB := hB'
  clear hB'
  go_wp2_with fail
  refine (number_at _ _ _ _ 4 h _ _ (by rfl) (hcut.below hB) (by omega) (by omega) HV2.out).mono ?_
  rintro e wn2 ⟨rfl, hbn⟩
  have hB' := then_ hB hbn
  clear hB hbn
  have hB := hB'
  clear hB'
  go_wp2_with fail
  refine (number_at _ _ _ _ 6 n _ _ (by rfl) (hcut.below hB) (by omega) (by omega) HV3.out).mono ?_
  rintro e wn3 ⟨rfl, hbn⟩
  have hB' := then_ hB hbn
  clear hB hbn
  have hB := hB'
  clear hB'
  go_wp2_with fail
  refine (number_at _ _ _ _ 8 s _ _ (by rfl) (hcut.below hB) (by omega) (by omega) HV4.out).mono ?_
  rintro e wn4 ⟨rfl, hbn⟩
  have hB' := then_ hB hbn
  clear hB hbn
  have hB := hB'
  clear hB'
  have hz := (hcut.below hB).2.2 (by omega)
  obtain ⟨b2, off2, hA2, hblt2, hcells2⟩ := hz
  cases hA2
  have hz := hcells2 10 (by omega)
  rw [HVZ.out] at hz
  clear hcells2 hblt2 hcut HV0 HV1 HV2 HV3 HV4 HVZ
  by_cases k0 : z = 90
  · subst k0
    by_cases k1 : m < 1
    · obtain ⟨rfl, rfl⟩ := HP.out.2 (fun q => by obtain ⟨_, _, ⟨_, _⟩, _, ⟨_, _⟩, ⟨_, _⟩, ⟨_, _⟩, _⟩ := q; omega)
      clear HP HL HM
      go_wp2
      go_ret2
      exact ⟨rfl, hB⟩
    · by_cases k2 : 12 < m
      · obtain ⟨rfl, rfl⟩ := HP.out.2 (fun q => by obtain ⟨_, _, ⟨_, _⟩, _, ⟨_, _⟩, ⟨_, _⟩, ⟨_, _⟩, _⟩ := q; omega)
        clear HP HL HM
        go_wp2
        go_ret2
        exact ⟨rfl, hB⟩
      · by_cases k3 : d < 1
        · obtain ⟨rfl, rfl⟩ := HP.out.2 (fun q => by obtain ⟨_, _, ⟨_, _⟩, _, ⟨_, _⟩, ⟨_, _⟩, ⟨_, _⟩, _⟩ := q; omega)
          clear HP HL HM
          go_wp2
          go_ret2
          exact ⟨rfl, hB⟩
        · by_cases k4 : h < 0
          · obtain ⟨rfl, rfl⟩ := HP.out.2 (fun q => by obtain ⟨_, _, ⟨_, _⟩, _, ⟨_, _⟩, ⟨_, _⟩, ⟨_, _⟩, _⟩ := q; omega)
            clear HP HL HM
            go_wp2
            go_ret2
            exact ⟨rfl, hB⟩
          · by_cases k5 : 23 < h
            · obtain ⟨rfl, rfl⟩ := HP.out.2 (fun q => by obtain ⟨_, _, ⟨_, _⟩, _, ⟨_, _⟩, ⟨_, _⟩, ⟨_, _⟩, _⟩ := q; omega)
              clear HP HL HM
              go_wp2
              go_ret2
              exact ⟨rfl, hB⟩
            · by_cases k6 : n < 0
              · obtain ⟨rfl, rfl⟩ := HP.out.2 (fun q => by obtain ⟨_, _, ⟨_, _⟩, _, ⟨_, _⟩, ⟨_, _⟩, ⟨_, _⟩, _⟩ := q; omega)
                clear HP HL HM
                go_wp2
                go_ret2
                exact ⟨rfl, hB⟩
              · by_cases k7 : 59 < n
                · obtain ⟨rfl, rfl⟩ := HP.out.2 (fun q => by obtain ⟨_, _, ⟨_, _⟩, _, ⟨_, _⟩, ⟨_, _⟩, ⟨_, _⟩, _⟩ := q; omega)
                  clear HP HL HM
                  go_wp2
                  go_ret2
                  exact ⟨rfl, hB⟩
                · by_cases k8 : s < 0
                  · obtain ⟨rfl, rfl⟩ := HP.out.2 (fun q => by obtain ⟨_, _, ⟨_, _⟩, _, ⟨_, _⟩, ⟨_, _⟩, ⟨_, _⟩, _⟩ := q; omega)
                    clear HP HL HM
                    go_wp2
                    go_ret2
                    exact ⟨rfl, hB⟩
                  · by_cases k9 : 59 < s
                    · obtain ⟨rfl, rfl⟩ := HP.out.2 (fun q => by obtain ⟨_, _, ⟨_, _⟩, _, ⟨_, _⟩, ⟨_, _⟩, ⟨_, _⟩, _⟩ := q; omega)
                      clear HP HL HM
                      go_wp2
                      go_ret2
                      exact ⟨rfl, hB⟩
                    · obtain ⟨M, hM⟩ : ∃ M, mon (lp (1900 + p)) (m - 1).toNat = M := ⟨_, rfl⟩
                      obtain ⟨L, hL⟩ : ∃ L, lp (1900 + p) = L := ⟨_, rfl⟩
                      have hl01 := lp_01 (y := (1900 + p)) (by omega)
                      rw [hL] at hM hl01
                      obtain ⟨hl0, hl1⟩ := hl01
                      have hMb := mon_bd hl0 hl1 (m - 1).toNat
                      rw [hM] at hMb
                      obtain ⟨hMb0, hMb1⟩ := hMb
                      have HL2 := Lib.hid hL
                      have HM2 := Lib.hid hM
                      clear hL hM HL HM
                      go_wp2_with fail
                      refine (month_at _ _ (m - 1).toNat M _ (by omega) (by omega) (by omega) (by omega) (by rw [HL2.out]; exact HM2.out)).mono ?_
                      rintro e wq ⟨rfl, hbn⟩
                      have hB' := then_ hB hbn
                      clear hB hbn hz
                      have hB := hB'
                      clear hB'
                      by_cases km : M < d
                      · obtain ⟨rfl, rfl⟩ := HP.out.2 (fun q => by
                          obtain ⟨_, _, ⟨_, _⟩, _, ⟨_, _⟩, ⟨_, _⟩, ⟨_, _⟩, q⟩ := q
                          rw [HL2.out, HM2.out] at q
                          omega)
                        clear HP HL2 HM2
                        go_wp2
                        go_ret2
                        exact ⟨rfl, hB⟩
                      · have hok := HP.out.1 (by omega) ⟨by first | exact k0 | rfl, ⟨by omega, by omega⟩, by omega, ⟨by omega, by omega⟩, ⟨by omega, by omega⟩, ⟨by omega, by omega⟩, by rw [HL2.out, HM2.out]; omega⟩
                        obtain ⟨rfl, rfl⟩ := hok
                        have hdb := dto_bd (y := (1900 + p)) (by omega) (by omega)
                        obtain ⟨hdb0, hdb1⟩ := hdb
                        have hsec : ∀ k : Nat, (k : Int) + 1 = m → (dto (1900 + p) - 7305 + d - 1 + cum L k) * 86400 + (3600 * h + 60 * n + s) = secAt (1900 + p) m d h n s := fun k hk => by
                          have hix : mIx m = k := by unfold mIx; omega
                          unfold secAt daysAt
                          rw [hix, HL2.out]
                          omega
                        have HS := Lib.hid hsec
                        clear HP HM2 hsec
                        go_wp2_with fail
                        refine (days_any _ _ (by omega) (by omega)).mono ?_
                        rintro e w' ⟨rfl, rfl⟩
                        obtain ⟨DY, hDY⟩ : ∃ DY, dto (1900 + p) = DY := ⟨_, rfl⟩
                        rw [hDY] at hdb0 hdb1 HS ⊢
                        clear hDY
                        go_wp2_with fail
                        go_outline
                        go_loopw [16, 17] (fun t16 t17 wr => ∃ k : Nat, k < 12 ∧ (k : Int) + 1 ≤ m ∧ t16 = .int .i64 (DY - 7305 + d - 1 + cum L k) ∧ t17 = .int .i64 ((k : Int) + 1) ∧ Below w.heap.size w wr) (fun _ t17 _ => 13 - (intOf t17).toNat)
                        case atStart => exact ⟨0, by omega, by omega, by simp [cum], rfl, hB⟩
                        case round =>
                          obtain ⟨k, hk, hkm, rfl, rfl, hbw⟩ := hrel
                          have hcs := cum_step L hk
                          have hcb := cum_bd hl0 hl1 k
                          have hmbd := mon_bd hl0 hl1 k
                          obtain ⟨hcb0, hcb1⟩ := hcb
                          obtain ⟨hmbd0, hmbd1⟩ := hmbd
                          by_cases hc : (k : Int) + 1 < m
                          · have hk11 : k + 1 < 12 := by omega
                            obtain ⟨CK, hCK⟩ : ∃ CK, cum L k = CK := ⟨_, rfl⟩
                            obtain ⟨MK, hMK⟩ : ∃ MK, mon L k = MK := ⟨_, rfl⟩
                            rw [hCK] at hcs hcb0 hcb1 ⊢
                            rw [hMK] at hcs hmbd0 hmbd1
                            have HCS := Lib.hid hcs
                            have HMK := Lib.hid hMK
                            clear hcs hMK hCK
                            go_wp2_with fail
                            refine (month_at _ _ k MK _ (by omega) (by omega) hk rfl (by rw [HL2.out]; exact HMK.out)).mono ?_
                            rintro e w1 ⟨rfl, hbm⟩
                            have hbw1 := then_ hbw hbm
                            clear hbw hbm
                            go_wp2_with fail
                            go_round
                            case rel => exact ⟨k + 1, by omega, by omega, by rw [HCS.out]; exact congrArg (Value.int .i64) (by omega), by simp, hbw1⟩
                            case measure => simp [intOf]; omega
                          · have hkm2 : (k : Int) + 1 = m := by omega
                            have hs := HS.out k hkm2
                            obtain ⟨CK, hCK⟩ : ∃ CK, cum L k = CK := ⟨_, rfl⟩
                            rw [hCK] at hs hcb0 hcb1 ⊢
                            have HS2 := Lib.hid hs
                            clear hcs hCK HS hs
                            go_wp2
                            go_ret2
                            exact ⟨two_ret (by rw [← HS2.out]), hbw⟩
  · have k0' : (z == 90) = false := by simpa using k0
    obtain ⟨rfl, rfl⟩ := HP.out.2 (fun q => by obtain ⟨_, _, ⟨_, _⟩, _, ⟨_, _⟩, ⟨_, _⟩, ⟨_, _⟩, _⟩ := q; exact k0 (by assumption))
    clear HP HL HM
    go_wp2
    go_ret2
    exact ⟨rfl, hB⟩
end Go.Proofs.YtaafgohaikhekaaDoor.txc
