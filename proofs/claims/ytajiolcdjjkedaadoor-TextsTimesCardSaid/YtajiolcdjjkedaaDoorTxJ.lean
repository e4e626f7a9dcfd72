/- The document's own PutTime. -/
import Derived.Test.YtajiolcdjjkedaaDoorTxI
namespace Go.Proofs.YtajiolcdjjkedaaDoor.txc
open Go.RowKit Go.Proofs.YtajiolcdjjkedaaDoor.txm Go.Proofs.YtajiolcdjjkedaaDoor.tlvc
set_option linter.unusedVariables false
set_option linter.unusedSimpArgs false

theorem own_two (w : World) (a b : Int) {base : Nat} (h : base ≤ w.heap.size) : (w.alloc (.cells #[.int .u8 a, .int .u8 b] 5)).ownsRow base 5 1 (.slice (some ⟨w.heap.size, 0, none⟩) 2 2) 2 (vals [a, b]) :=
  World.ownsRow_lit w #[.int .u8 a, .int .u8 b] 2 h (by decide) rfl
theorem two_at (n m : Int) (w : World) (e : Hid (n = m)) (h : 0 ≤ m) (h2 : m ≤ 99) :
    Calls Tryd.prog 40 #[.int .i64 n] w fun e w' => e = .returned (.slice (some ⟨w.heap.size, 0, none⟩) 2 2) ∧ w' = w.alloc (.cells #[.int .u8 (48 + m / 10), .int .u8 (48 + m % 10)] 5) := by
  rw [e.out]; exact two_any m w h h2
theorem put_own {w w' : World} {t : Int} {v : Value} {n : Nat} {ys zs : List Int} (hz : zs = ys) (h : w'.ownsRow w.heap.size 5 1 v n (vals zs)) (hf : Fit ys) (hb : Below w.heap.size w w') : Put w t ys 0 (.returned (.tuple #[.int .u8 t, v, .int .i64 0])) w' := by
  subst hz
  obtain ⟨A, c, e, hh, hb⟩ := made_own h hf hb
  cases e
  exact ⟨A, c, rfl, hh, hb⟩
theorem day_eqs {sec S r : Int} (hS : sec + 631152000 = S) (hr : S % 86400 = r) (h0 : 0 ≤ S) : (sec.tmod 86400 + 86400) % 86400 = r ∧ (sec - r).tdiv 86400 = S / 86400 - 7305 ∧ -86400 < sec.tmod 86400 ∧ sec.tmod 86400 < 86400 := by
  have h1 := Int.mul_tdiv_add_tmod sec 86400
  have h2 : sec.tmod 86400 < 86400 := by have := Int.tmod_lt_of_pos sec (show (0 : Int) < 86400 by decide); omega
  have h3 : -86400 < sec.tmod 86400 := by have := Int.lt_tmod_of_pos sec (show (0 : Int) < 86400 by decide); omega
  refine ⟨by omega, ?_, h3, h2⟩
  have e : sec - r = (S / 86400 - 7305) * 86400 := by omega
  rw [e]
  exact Int.mul_tdiv_cancel _ (by decide)
theorem clock_eqs {S r : Int} (hr : S % 86400 = r) (h0 : 0 ≤ S) : r / 3600 = S / 60 / 60 % 24 ∧ r / 60 % 60 = S / 60 % 60 ∧ r % 60 = S % 60 := by omega

set_option maxRecDepth 100000 in
set_option maxHeartbeats 4000000 in
theorem refPutTime_in (sec : Int) (w : World) (h : InR sec) :
    Calls Tryd.prog 18 #[.int .i64 sec] w (Put w (tagOf sec) (bodyOf sec) 0) := by
  obtain ⟨i0, hi, hz0, hz1, hz2⟩ := info_parts Tryd.info5
  have hfit := body_fit h
  have hty := tag_year h
  obtain ⟨S, hS⟩ : ∃ S, sec + 631152000 = S := ⟨_, rfl⟩
  have hb := dayOf_bd h
  have hday : dayOf sec = S / 86400 := by unfold dayOf; rw [hS]
  rw [hday] at hb
  obtain ⟨hb0, hb1⟩ := hb
  have hS0 : 0 ≤ S := by unfold InR at h; omega
  have hS1 : S ≤ 254033452799 := by unfold InR at h; omega
  have hsec : sec = S - 631152000 := by omega
  obtain ⟨Y, hY⟩ : ∃ Y, yOf sec = Y := ⟨_, rfl⟩
  obtain ⟨R, hR⟩ : ∃ R, rOf sec = R := ⟨_, rfl⟩
  obtain ⟨M, hM⟩ : ∃ M, mOf sec = M := ⟨_, rfl⟩
  have hl := lp_y h
  have hr := r_bd h
  have huniq : ∀ y, 1 ≤ y → dto y ≤ S / 86400 → S / 86400 < dto (y + 1) → y = Y := fun y h1 h2 h3 => by rw [← hY]; unfold yOf; rw [hday]; exact yearOf_uniq hb0 hb1 h1 h2 h3
  have hRd : R = S / 86400 - dto Y := by rw [← hR, ← hY]; unfold rOf; rw [hday]
  rw [hY] at hl hr hty
  rw [hR] at hr
  have hmu : ∀ i : Nat, i < 12 → cum (lp Y) i ≤ R → R < cum (lp Y) (i + 1) → i = M := fun i h1 h2 h3 => by
    rw [← hM]; unfold mOf; rw [hY, hR]; exact monOf_uniq hl.1 hl.2 hr.1 hr.2 h1 h2 h3
  have hyb := y_spec h
  rw [hY] at hyb
  obtain ⟨_, _, hy0, hy1⟩ := hyb
  obtain ⟨r, hr0⟩ : ∃ r, S % 86400 = r := ⟨_, rfl⟩
  obtain ⟨q1, q2, q3, q4⟩ := day_eqs hS hr0 hS0
  obtain ⟨e1, e2, e3⟩ := clock_eqs hr0 hS0
  have hrb0 : 0 ≤ r := by omega
  have hrb1 : r < 86400 := by omega
  have hbody : bodyOf sec = wrs (tagOf sec) [Y / 100, Y % 100, (M : Int) + 1, R - cum (lp Y) M + 1, r / 3600, r / 60 % 60, r % 60] := by
    unfold bodyOf; simp only [clk, hY, hR, hM, hS, e1, e2, e3]
  have hdb := d_bd h
  have hmb := (m_spec h).2.2
  rw [hY, hR, hM] at hdb
  rw [hM] at hmb
  obtain ⟨hdb0, _, hdb1⟩ := hdb
  have hdy := dto_bd (y := Y) (by omega) (by omega)
  obtain ⟨hdy0, hdy1⟩ := hdy
  obtain ⟨L, hL⟩ : ∃ L, lp Y = L := ⟨_, rfl⟩
  rw [hL] at hmu hl hr hbody hdb0 hdb1
  obtain ⟨hl0, hl1⟩ := hl
  obtain ⟨hr1, hr2⟩ := hr
  have hfin : ∀ (t : Int) (xs : List Int), tagOf sec = t → bodyOf sec = xs → ∀ (v : Value) (w' : World), w'.ownsRow w.heap.size 5 1 v xs.length (vals xs) → Below w.heap.size w w' → Put w (tagOf sec) (bodyOf sec) 0 (.returned (.tuple #[.int .u8 t, v, .int .i64 0])) w' :=
    fun t xs ht hx v w' h1 h2 => by rw [ht]; exact put_own hx.symm h1 hfit h2
  obtain ⟨T, hT⟩ : ∃ T, sec.tmod 86400 = T := ⟨_, rfl⟩
  rw [hT] at q1 q3 q4
  obtain ⟨D, hD⟩ : ∃ D, S / 86400 = D := ⟨_, rfl⟩
  rw [hD] at hb0 hb1 huniq hRd q2
  have HU := Lib.hid huniq
  have HM := Lib.hid hmu
  have HR := Lib.hid hRd
  have HL := Lib.hid hL
  have HT := Lib.hid hty
  have HF0 := Lib.hid hfin
  have HB := Lib.hid hbody
  have hsb0 : -631152000 ≤ sec := by unfold InR at h; omega
  have hsb1 : sec ≤ 253402300799 := by unfold InR at h; omega
  have hsD : sec - r = (D - 7305) * 86400 := by omega
  have HSD := Lib.hid hsD
  have hsr0 : -631152000 ≤ sec - r := by omega
  have hsr1 : sec - r ≤ 253402300799 := by omega
  have g0 : dto 1950 ≤ D := by rw [dto_1950]; exact hb0
  clear huniq hmu hRd hL hfit hfin hbody hty hY hR hM hday hS hsec hr0 hD e1 e2 e3 hsD
  go_enter Tryd.func18, Tryd.ntmps18
  go_wp2_with fail
  rw [q1]
  clear q1 hT q2 q3 q4
  go_loop [7] (fun t => ∃ y : Int, 1950 ≤ y ∧ y ≤ 9999 ∧ dto y ≤ D ∧ t = .int .i64 y) (fun t => (9999 - intOf t).toNat)
  case atStart => exact ⟨_, by omega, by omega, g0, rfl⟩
  case round =>
    obtain ⟨y, hy1, hy2, hy3, rfl⟩ := hrel
    clear g0
    have hdb := dto_bd (y := y + 1) (by omega) (by omega)
    obtain ⟨hdb2, hdb3⟩ := hdb
    by_cases hc : dto (y + 1) ≤ D
    · have hlt : y < 9999 := by
        rcases Int.lt_or_le y 9999 with h | h
        · exact h
        · have : y = 9999 := by omega
          subst this
          have := dto_10000
          have e : (9999 : Int) + 1 = 10000 := by decide
          rw [e] at hc
          omega
      have hc' : dto (y + 1) - 7305 ≤ D - 7305 := by omega
      have HC := Lib.hid hc
      clear hc
      go_wp2_with fail
      refine (days_any _ _ (by omega) (by omega)).mono ?_
      rintro e w' ⟨rfl, rfl⟩
      go_wp2_with fail
      go_round
      case rel => exact ⟨y + 1, by omega, by omega, HC.out, rfl⟩
      case measure => simp [intOf]; omega
    · obtain rfl : Y = y := (HU.out y (by omega) hy3 (by omega)).symm
      have hc' : ¬ (dto (Y + 1) - 7305 ≤ D - 7305) := by omega
      clear hc
      go_wp2_with fail
      refine (days_any _ _ (by omega) (by omega)).mono ?_
      rintro e w' ⟨rfl, rfl⟩
      go_wp2_with fail
      refine (days_any _ _ (by omega) (by omega)).mono ?_
      rintro e w' ⟨rfl, rfl⟩
      have hRr0 : 0 ≤ R := hr1
      go_wp2_with fail
      go_outline
      go_loopw [6, 8] (fun t6 t8 wr => ∃ k : Nat, k < 12 ∧ 0 ≤ R - cum L k ∧ t6 = .int .i64 (R - cum L k) ∧ t8 = .int .i64 ((k : Int) + 1) ∧ Below w.heap.size w wr) (fun _ t8 _ => 13 - (intOf t8).toNat)
      case atStart => exact ⟨0, by omega, by simp [cum]; omega, by have := HR.out; simp [cum]; omega, rfl, Below.refl _ _⟩
      case round =>
        obtain ⟨k, hk, hk0, rfl, rfl, hbw⟩ := hrel
        have hcs := cum_step L hk
        have hcb := cum_bd hl0 hl1 k
        have hmbd := mon_bd hl0 hl1 k
        obtain ⟨hcb0, hcb1⟩ := hcb
        obtain ⟨hmbd0, hmbd1⟩ := hmbd
        by_cases hm : R - cum L k < mon L k
        · obtain rfl : k = M := HM.out k hk (by omega) (by omega)
          clear hcs
          go_wp2_with fail
          refine (month_any _ k _ (by omega) (by omega) hk).mono ?_
          rw [HL.out]
          rintro e w1 ⟨rfl, hbm⟩
          have hbw1 := hbw.trans (hbm.mono hbw.size)
          clear hbw hbm
          go_wp2_with fail
          have e31 : ∀ x : Int, 31 = x → True := fun _ _ => trivial
          have hn1 : 0 ≤ (k : Int) + 1 := by omega
          have hn2 : (k : Int) + 1 ≤ 99 := by omega
          have hn3 : 0 ≤ R - cum L k + 1 := by omega
          have hn4 : R - cum L k + 1 ≤ 99 := by omega
          have hn5 : 0 ≤ r / 3600 := by omega
          have hn6 : r / 3600 ≤ 99 := by omega
          have hn7 : 0 ≤ r / 60 % 60 := by omega
          have hn8 : r / 60 % 60 ≤ 99 := by omega
          have hn9 : 0 ≤ r % 60 := by omega
          have hn10 : r % 60 ≤ 99 := by omega
          have hny1 : 0 ≤ Y / 100 := by omega
          have hny2 : Y / 100 ≤ 99 := by omega
          have hny3 : 0 ≤ Y % 100 := by omega
          have hny4 : Y % 100 ≤ 99 := by omega
          obtain ⟨fh, hfh⟩ : ∃ fh, r / 3600 = fh := ⟨_, rfl⟩
          obtain ⟨fn, hfn⟩ : ∃ fn, r / 60 % 60 = fn := ⟨_, rfl⟩
          obtain ⟨fs, hfs⟩ : ∃ fs, r % 60 = fs := ⟨_, rfl⟩
          obtain ⟨fy, hfy⟩ : ∃ fy, Y / 100 = fy := ⟨_, rfl⟩
          obtain ⟨fq, hfq⟩ : ∃ fq, Y % 100 = fq := ⟨_, rfl⟩
          obtain ⟨fm, hfm⟩ : ∃ fm, (k : Int) + 1 = fm := ⟨_, rfl⟩
          obtain ⟨fd, hfd⟩ : ∃ fd, R - cum L k + 1 = fd := ⟨_, rfl⟩
          rw [hfh] at hn5 hn6 HB
          rw [hfn] at hn7 hn8 HB
          rw [hfs] at hn9 hn10 HB
          rw [hfy] at hny1 hny2 HB
          rw [hfq] at hny3 hny4 HB
          rw [hfm] at hn1 hn2 HB
          rw [hfd] at hn3 hn4 HB
          have HFH := Lib.hid hfh
          have HFN := Lib.hid hfn
          have HFS := Lib.hid hfs
          have HFY := Lib.hid hfy
          have HFQ := Lib.hid hfq
          have HFM := Lib.hid hfm
          have HFD := Lib.hid hfd
          clear hfh hfn hfs hfy hfq hfm hfd
          have hbs1 := hbw1.size
          go_wp2_with fail
          refine (two_at _ fy _ HFY (by omega) (by omega)).mono ?_
          rintro e wz ⟨rfl, rfl⟩
          have hown := own_two w1 (48 + fy / 10) (48 + fy % 10) (base := w.heap.size) hbs1
          have hbw := hbw1.alloc hbs1 (.cells #[.int .u8 (48 + fy / 10), .int .u8 (48 + fy % 10)] 5)
          obtain ⟨wa, hwa⟩ : ∃ wa, w1.alloc (.cells #[.int .u8 (48 + fy / 10), .int .u8 (48 + fy % 10)] 5) = wa := ⟨_, rfl⟩
          obtain ⟨va, hva⟩ : ∃ va, Value.slice (some ⟨w1.heap.size, 0, none⟩) 2 2 = va := ⟨_, rfl⟩
          rw [hwa, hva] at hown
          rw [hwa] at hbw
          rw [hwa, hva]
          clear hwa hva hbw1 hbs1
          have hbs := hbw.size
          go_wp2_with fail
          refine (two_at _ fq _ HFQ (by omega) (by omega)).mono ?_
          rintro e wz ⟨rfl, rfl⟩
          by_cases hy20 : Y < 2050
          · have HF := Lib.hid (HF0.out 23 (wrs 23 [fy, fq, fm, fd, fh, fn, fs]) (if_neg (fun h => by have := HT.out.1 h; omega)) (by rw [HB.out, show tagOf sec = 23 from if_neg (fun h => by have := HT.out.1 h; omega)]))
            clear e31
            have hbn : Bys (wa.alloc (.cells #[.int .u8 (48 + fq / 10), .int .u8 (48 + fq % 10)] 5)) (some ⟨wa.heap.size, 0, none⟩) 2 [48 + fq / 10, 48 + fq % 10] := bys_new2 wa _ (by omega) (by omega)
            go_wp2_with (at_builtin; refine wpl_app rfl (.tmp 50) (.tmp 53) 22 rfl w.heap.size 5 i0 (.int .u8 0) Tryd.underlying22 hi hz0 hz1 hz2 rfl va 2 (vals [48 + fy / 10, 48 + fy % 10]) rfl (hown.alloc _) (some ⟨wa.heap.size, 0, none⟩) 2 2 [48 + fq / 10, 48 + fq % 10] rfl hbn (by first | omega | (simp only [List.length_append, List.length_cons, List.length_nil]; omega)) (by simp; omega) ?_; intro v10 w10 ho hg)
            obtain ⟨hown', hbw'⟩ := own_next (xs := [48 + fy / 10, 48 + fy % 10]) hbw hown (zs := [48 + fy / 10, 48 + fy % 10] ++ [48 + fq / 10, 48 + fq % 10]) rfl rfl ho hg
            have hbs10 := hbw'.size
            clear ho hg hown hbw hbs hbn
            have hown := hown'
            have hbw := hbw'
            clear hown' hbw'
            clear hown
            go_wp2_with fail
            refine (two_at _ fq _ HFQ (by omega) (by omega)).mono ?_
            rintro e wz ⟨rfl, rfl⟩
            have hown := own_two w10 (48 + fq / 10) (48 + fq % 10) (base := w.heap.size) hbs10
            have hbw' := hbw.alloc hbs10 (.cells #[.int .u8 (48 + fq / 10), .int .u8 (48 + fq % 10)] 5)
            obtain ⟨wb, hwb⟩ : ∃ wb, w10.alloc (.cells #[.int .u8 (48 + fq / 10), .int .u8 (48 + fq % 10)] 5) = wb := ⟨_, rfl⟩
            obtain ⟨vb, hvb⟩ : ∃ vb, Value.slice (some ⟨w10.heap.size, 0, none⟩) 2 2 = vb := ⟨_, rfl⟩
            rw [hwb, hvb] at hown
            rw [hwb] at hbw'
            rw [hwb, hvb]
            clear hwb hvb hbw hbs10
            have hbw := hbw'
            clear hbw'
            have hbs := hbw.size
            go_wp2_with fail
            refine (two_at _ fm _ HFM (by omega) (by omega)).mono ?_
            rintro e wz ⟨rfl, rfl⟩
            have hbn : Bys (wb.alloc (.cells #[.int .u8 (48 + fm / 10), .int .u8 (48 + fm % 10)] 5)) (some ⟨wb.heap.size, 0, none⟩) 2 [48 + fm / 10, 48 + fm % 10] := bys_new2 wb _ (by omega) (by omega)
            go_wp2_with (at_builtin; refine wpl_app rfl (.tmp 60) (.tmp 62) 22 rfl w.heap.size 5 i0 (.int .u8 0) Tryd.underlying22 hi hz0 hz1 hz2 rfl vb [48 + fq / 10, 48 + fq % 10].length (vals [48 + fq / 10, 48 + fq % 10]) rfl (hown.alloc _) (some ⟨wb.heap.size, 0, none⟩) 2 2 [48 + fm / 10, 48 + fm % 10] rfl hbn (by first | omega | (simp only [List.length_append, List.length_cons, List.length_nil]; omega)) (by simp; omega) ?_; intro v20 w20 ho hg)
            obtain ⟨hown', hbw'⟩ := own_next hbw hown (zs := ([48 + fq / 10, 48 + fq % 10] ++ [48 + fm / 10, 48 + fm % 10])) rfl rfl ho hg
            have hbs20 := hbw'.size
            clear ho hg hown hbw hbn
            have hown := hown'
            have hbw := hbw'
            clear hown' hbw'
            go_wp2_with fail
            refine (two_at _ fd _ HFD (by omega) (by omega)).mono ?_
            rintro e wz ⟨rfl, rfl⟩
            have hbn : Bys (w20.alloc (.cells #[.int .u8 (48 + fd / 10), .int .u8 (48 + fd % 10)] 5)) (some ⟨w20.heap.size, 0, none⟩) 2 [48 + fd / 10, 48 + fd % 10] := bys_new2 w20 _ (by omega) (by omega)
            go_wp2_with (at_builtin; refine wpl_app rfl (.tmp 64) (.tmp 67) 22 rfl w.heap.size 5 i0 (.int .u8 0) Tryd.underlying22 hi hz0 hz1 hz2 rfl v20 ([48 + fq / 10, 48 + fq % 10] ++ [48 + fm / 10, 48 + fm % 10]).length (vals ([48 + fq / 10, 48 + fq % 10] ++ [48 + fm / 10, 48 + fm % 10])) rfl (hown.alloc _) (some ⟨w20.heap.size, 0, none⟩) 2 2 [48 + fd / 10, 48 + fd % 10] rfl hbn (by first | omega | (simp only [List.length_append, List.length_cons, List.length_nil]; omega)) (by simp; omega) ?_; intro v21 w21 ho hg)
            obtain ⟨hown', hbw'⟩ := own_next hbw hown (zs := (([48 + fq / 10, 48 + fq % 10] ++ [48 + fm / 10, 48 + fm % 10]) ++ [48 + fd / 10, 48 + fd % 10])) rfl rfl ho hg
            have hbs21 := hbw'.size
            clear ho hg hown hbw hbn
            have hown := hown'
            have hbw := hbw'
            clear hown' hbw'
            go_wp2_with fail
            refine (two_at _ fh _ HFH (by omega) (by omega)).mono ?_
            rintro e wz ⟨rfl, rfl⟩
            have hbn : Bys (w21.alloc (.cells #[.int .u8 (48 + fh / 10), .int .u8 (48 + fh % 10)] 5)) (some ⟨w21.heap.size, 0, none⟩) 2 [48 + fh / 10, 48 + fh % 10] := bys_new2 w21 _ (by omega) (by omega)
            go_wp2_with (at_builtin; refine wpl_app rfl (.tmp 69) (.tmp 72) 22 rfl w.heap.size 5 i0 (.int .u8 0) Tryd.underlying22 hi hz0 hz1 hz2 rfl v21 (([48 + fq / 10, 48 + fq % 10] ++ [48 + fm / 10, 48 + fm % 10]) ++ [48 + fd / 10, 48 + fd % 10]).length (vals (([48 + fq / 10, 48 + fq % 10] ++ [48 + fm / 10, 48 + fm % 10]) ++ [48 + fd / 10, 48 + fd % 10])) rfl (hown.alloc _) (some ⟨w21.heap.size, 0, none⟩) 2 2 [48 + fh / 10, 48 + fh % 10] rfl hbn (by first | omega | (simp only [List.length_append, List.length_cons, List.length_nil]; omega)) (by simp; omega) ?_; intro v22 w22 ho hg)
            obtain ⟨hown', hbw'⟩ := own_next hbw hown (zs := ((([48 + fq / 10, 48 + fq % 10] ++ [48 + fm / 10, 48 + fm % 10]) ++ [48 + fd / 10, 48 + fd % 10]) ++ [48 + fh / 10, 48 + fh % 10])) rfl rfl ho hg
            have hbs22 := hbw'.size
            clear ho hg hown hbw hbn
            have hown := hown'
            have hbw := hbw'
            clear hown' hbw'
            go_wp2_with fail
            refine (two_at _ fn _ HFN (by omega) (by omega)).mono ?_
            rintro e wz ⟨rfl, rfl⟩
            have hbn : Bys (w22.alloc (.cells #[.int .u8 (48 + fn / 10), .int .u8 (48 + fn % 10)] 5)) (some ⟨w22.heap.size, 0, none⟩) 2 [48 + fn / 10, 48 + fn % 10] := bys_new2 w22 _ (by omega) (by omega)
            go_wp2_with (at_builtin; refine wpl_app rfl (.tmp 74) (.tmp 78) 22 rfl w.heap.size 5 i0 (.int .u8 0) Tryd.underlying22 hi hz0 hz1 hz2 rfl v22 ((([48 + fq / 10, 48 + fq % 10] ++ [48 + fm / 10, 48 + fm % 10]) ++ [48 + fd / 10, 48 + fd % 10]) ++ [48 + fh / 10, 48 + fh % 10]).length (vals ((([48 + fq / 10, 48 + fq % 10] ++ [48 + fm / 10, 48 + fm % 10]) ++ [48 + fd / 10, 48 + fd % 10]) ++ [48 + fh / 10, 48 + fh % 10])) rfl (hown.alloc _) (some ⟨w22.heap.size, 0, none⟩) 2 2 [48 + fn / 10, 48 + fn % 10] rfl hbn (by first | omega | (simp only [List.length_append, List.length_cons, List.length_nil]; omega)) (by simp; omega) ?_; intro v23 w23 ho hg)
            obtain ⟨hown', hbw'⟩ := own_next hbw hown (zs := (((([48 + fq / 10, 48 + fq % 10] ++ [48 + fm / 10, 48 + fm % 10]) ++ [48 + fd / 10, 48 + fd % 10]) ++ [48 + fh / 10, 48 + fh % 10]) ++ [48 + fn / 10, 48 + fn % 10])) rfl rfl ho hg
            have hbs23 := hbw'.size
            clear ho hg hown hbw hbn
            have hown := hown'
            have hbw := hbw'
            clear hown' hbw'
            go_wp2_with fail
            refine (two_at _ fs _ HFS (by omega) (by omega)).mono ?_
            rintro e wz ⟨rfl, rfl⟩
            have hbn : Bys (w23.alloc (.cells #[.int .u8 (48 + fs / 10), .int .u8 (48 + fs % 10)] 5)) (some ⟨w23.heap.size, 0, none⟩) 2 [48 + fs / 10, 48 + fs % 10] := bys_new2 w23 _ (by omega) (by omega)
            go_wp2_with (first | ((at_builtin; refine wpl_app rfl (.tmp 80) (.tmp 83) 22 rfl w.heap.size 5 i0 (.int .u8 0) Tryd.underlying22 hi hz0 hz1 hz2 rfl v23 (((([48 + fq / 10, 48 + fq % 10] ++ [48 + fm / 10, 48 + fm % 10]) ++ [48 + fd / 10, 48 + fd % 10]) ++ [48 + fh / 10, 48 + fh % 10]) ++ [48 + fn / 10, 48 + fn % 10]).length (vals (((([48 + fq / 10, 48 + fq % 10] ++ [48 + fm / 10, 48 + fm % 10]) ++ [48 + fd / 10, 48 + fd % 10]) ++ [48 + fh / 10, 48 + fh % 10]) ++ [48 + fn / 10, 48 + fn % 10])) rfl (hown.alloc _) (some ⟨w23.heap.size, 0, none⟩) 2 2 [48 + fs / 10, 48 + fs % 10] rfl hbn (by first | omega | (simp only [List.length_append, List.length_cons, List.length_nil]; omega)) (by simp; omega) ?_; intro v24 w24 ho hg); obtain ⟨hown', hbw'⟩ := own_next hbw hown (zs := ((((([48 + fq / 10, 48 + fq % 10] ++ [48 + fm / 10, 48 + fm % 10]) ++ [48 + fd / 10, 48 + fd % 10]) ++ [48 + fh / 10, 48 + fh % 10]) ++ [48 + fn / 10, 48 + fn % 10]) ++ [48 + fs / 10, 48 + fs % 10])) rfl rfl ho hg; have hbs24 := hbw'.size; clear ho hg hown hbw hbn; have hown := hown'; have hbw := hbw'; clear hown' hbw'; have hbn : Bys (w24.alloc (.cells #[.int .u8 90] 5)) (some ⟨w24.heap.size, 0, none⟩) 1 [90] := bys_new1 w24 _ (by omega)) | (at_builtin; refine wpl_app rfl (.tmp 86) (.tmp 87) 22 rfl w.heap.size 5 i0 (.int .u8 0) Tryd.underlying22 hi hz0 hz1 hz2 rfl v24 ((((([48 + fq / 10, 48 + fq % 10] ++ [48 + fm / 10, 48 + fm % 10]) ++ [48 + fd / 10, 48 + fd % 10]) ++ [48 + fh / 10, 48 + fh % 10]) ++ [48 + fn / 10, 48 + fn % 10]) ++ [48 + fs / 10, 48 + fs % 10]).length (vals ((((([48 + fq / 10, 48 + fq % 10] ++ [48 + fm / 10, 48 + fm % 10]) ++ [48 + fd / 10, 48 + fd % 10]) ++ [48 + fh / 10, 48 + fh % 10]) ++ [48 + fn / 10, 48 + fn % 10]) ++ [48 + fs / 10, 48 + fs % 10])) rfl (hown.alloc _) (some ⟨w24.heap.size, 0, none⟩) 1 1 [90] rfl hbn (by first | omega | (simp only [List.length_append, List.length_cons, List.length_nil]; omega)) (by simp; omega) ?_; intro v30 w30 ho hg))
            obtain ⟨hown', hbw'⟩ := own_next hbw hown (zs := ((((([48 + fq / 10, 48 + fq % 10] ++ [48 + fm / 10, 48 + fm % 10]) ++ [48 + fd / 10, 48 + fd % 10]) ++ [48 + fh / 10, 48 + fh % 10]) ++ [48 + fn / 10, 48 + fn % 10]) ++ [48 + fs / 10, 48 + fs % 10]) ++ [90]) rfl rfl ho hg
            clear ho hg hown hbw hbn
            have hfin := HF.out v30 w30 (by first | exact hown' | simpa [vals] using hown') hbw'
            clear hown' hbw'
            go_wp2
            go_ret3
            exact hfin
          · have HF := Lib.hid (HF0.out 24 (wrs 24 [fy, fq, fm, fd, fh, fn, fs]) (if_pos (HT.out.2 (by omega))) (by rw [HB.out, show tagOf sec = 24 from if_pos (HT.out.2 (by omega))]))
            clear e31
            have hbn : Bys (wa.alloc (.cells #[.int .u8 (48 + fq / 10), .int .u8 (48 + fq % 10)] 5)) (some ⟨wa.heap.size, 0, none⟩) 2 [48 + fq / 10, 48 + fq % 10] := bys_new2 wa _ (by omega) (by omega)
            go_wp2_with (at_builtin; refine wpl_app rfl (.tmp 50) (.tmp 53) 22 rfl w.heap.size 5 i0 (.int .u8 0) Tryd.underlying22 hi hz0 hz1 hz2 rfl va 2 (vals [48 + fy / 10, 48 + fy % 10]) rfl (hown.alloc _) (some ⟨wa.heap.size, 0, none⟩) 2 2 [48 + fq / 10, 48 + fq % 10] rfl hbn (by first | omega | (simp only [List.length_append, List.length_cons, List.length_nil]; omega)) (by simp; omega) ?_; intro v10 w10 ho hg)
            obtain ⟨hown', hbw'⟩ := own_next (xs := [48 + fy / 10, 48 + fy % 10]) hbw hown (zs := [48 + fy / 10, 48 + fy % 10] ++ [48 + fq / 10, 48 + fq % 10]) rfl rfl ho hg
            have hbs10 := hbw'.size
            clear ho hg hown hbw hbs hbn
            have hown := hown'
            have hbw := hbw'
            clear hown' hbw'
            go_wp2_with fail
            refine (two_at _ fm _ HFM (by omega) (by omega)).mono ?_
            rintro e wz ⟨rfl, rfl⟩
            have hbn : Bys (w10.alloc (.cells #[.int .u8 (48 + fm / 10), .int .u8 (48 + fm % 10)] 5)) (some ⟨w10.heap.size, 0, none⟩) 2 [48 + fm / 10, 48 + fm % 10] := bys_new2 w10 _ (by omega) (by omega)
            go_wp2_with (at_builtin; refine wpl_app rfl (.tmp 60) (.tmp 62) 22 rfl w.heap.size 5 i0 (.int .u8 0) Tryd.underlying22 hi hz0 hz1 hz2 rfl v10 ([48 + fy / 10, 48 + fy % 10] ++ [48 + fq / 10, 48 + fq % 10]).length (vals ([48 + fy / 10, 48 + fy % 10] ++ [48 + fq / 10, 48 + fq % 10])) rfl (hown.alloc _) (some ⟨w10.heap.size, 0, none⟩) 2 2 [48 + fm / 10, 48 + fm % 10] rfl hbn (by first | omega | (simp only [List.length_append, List.length_cons, List.length_nil]; omega)) (by simp; omega) ?_; intro v20 w20 ho hg)
            obtain ⟨hown', hbw'⟩ := own_next hbw hown (zs := (([48 + fy / 10, 48 + fy % 10] ++ [48 + fq / 10, 48 + fq % 10]) ++ [48 + fm / 10, 48 + fm % 10])) rfl rfl ho hg
            have hbs20 := hbw'.size
            clear ho hg hown hbw hbn
            have hown := hown'
            have hbw := hbw'
            clear hown' hbw'
            go_wp2_with fail
            refine (two_at _ fd _ HFD (by omega) (by omega)).mono ?_
            rintro e wz ⟨rfl, rfl⟩
            have hbn : Bys (w20.alloc (.cells #[.int .u8 (48 + fd / 10), .int .u8 (48 + fd % 10)] 5)) (some ⟨w20.heap.size, 0, none⟩) 2 [48 + fd / 10, 48 + fd % 10] := bys_new2 w20 _ (by omega) (by omega)
            go_wp2_with (at_builtin; refine wpl_app rfl (.tmp 64) (.tmp 67) 22 rfl w.heap.size 5 i0 (.int .u8 0) Tryd.underlying22 hi hz0 hz1 hz2 rfl v20 (([48 + fy / 10, 48 + fy % 10] ++ [48 + fq / 10, 48 + fq % 10]) ++ [48 + fm / 10, 48 + fm % 10]).length (vals (([48 + fy / 10, 48 + fy % 10] ++ [48 + fq / 10, 48 + fq % 10]) ++ [48 + fm / 10, 48 + fm % 10])) rfl (hown.alloc _) (some ⟨w20.heap.size, 0, none⟩) 2 2 [48 + fd / 10, 48 + fd % 10] rfl hbn (by first | omega | (simp only [List.length_append, List.length_cons, List.length_nil]; omega)) (by simp; omega) ?_; intro v21 w21 ho hg)
            obtain ⟨hown', hbw'⟩ := own_next hbw hown (zs := ((([48 + fy / 10, 48 + fy % 10] ++ [48 + fq / 10, 48 + fq % 10]) ++ [48 + fm / 10, 48 + fm % 10]) ++ [48 + fd / 10, 48 + fd % 10])) rfl rfl ho hg
            have hbs21 := hbw'.size
            clear ho hg hown hbw hbn
            have hown := hown'
            have hbw := hbw'
            clear hown' hbw'
            go_wp2_with fail
            refine (two_at _ fh _ HFH (by omega) (by omega)).mono ?_
            rintro e wz ⟨rfl, rfl⟩
            have hbn : Bys (w21.alloc (.cells #[.int .u8 (48 + fh / 10), .int .u8 (48 + fh % 10)] 5)) (some ⟨w21.heap.size, 0, none⟩) 2 [48 + fh / 10, 48 + fh % 10] := bys_new2 w21 _ (by omega) (by omega)
            go_wp2_with (at_builtin; refine wpl_app rfl (.tmp 69) (.tmp 72) 22 rfl w.heap.size 5 i0 (.int .u8 0) Tryd.underlying22 hi hz0 hz1 hz2 rfl v21 ((([48 + fy / 10, 48 + fy % 10] ++ [48 + fq / 10, 48 + fq % 10]) ++ [48 + fm / 10, 48 + fm % 10]) ++ [48 + fd / 10, 48 + fd % 10]).length (vals ((([48 + fy / 10, 48 + fy % 10] ++ [48 + fq / 10, 48 + fq % 10]) ++ [48 + fm / 10, 48 + fm % 10]) ++ [48 + fd / 10, 48 + fd % 10])) rfl (hown.alloc _) (some ⟨w21.heap.size, 0, none⟩) 2 2 [48 + fh / 10, 48 + fh % 10] rfl hbn (by first | omega | (simp only [List.length_append, List.length_cons, List.length_nil]; omega)) (by simp; omega) ?_; intro v22 w22 ho hg)
            obtain ⟨hown', hbw'⟩ := own_next hbw hown (zs := (((([48 + fy / 10, 48 + fy % 10] ++ [48 + fq / 10, 48 + fq % 10]) ++ [48 + fm / 10, 48 + fm % 10]) ++ [48 + fd / 10, 48 + fd % 10]) ++ [48 + fh / 10, 48 + fh % 10])) rfl rfl ho hg
            have hbs22 := hbw'.size
            clear ho hg hown hbw hbn
            have hown := hown'
            have hbw := hbw'
            clear hown' hbw'
            go_wp2_with fail
            refine (two_at _ fn _ HFN (by omega) (by omega)).mono ?_
            rintro e wz ⟨rfl, rfl⟩
            have hbn : Bys (w22.alloc (.cells #[.int .u8 (48 + fn / 10), .int .u8 (48 + fn % 10)] 5)) (some ⟨w22.heap.size, 0, none⟩) 2 [48 + fn / 10, 48 + fn % 10] := bys_new2 w22 _ (by omega) (by omega)
            go_wp2_with (at_builtin; refine wpl_app rfl (.tmp 74) (.tmp 78) 22 rfl w.heap.size 5 i0 (.int .u8 0) Tryd.underlying22 hi hz0 hz1 hz2 rfl v22 (((([48 + fy / 10, 48 + fy % 10] ++ [48 + fq / 10, 48 + fq % 10]) ++ [48 + fm / 10, 48 + fm % 10]) ++ [48 + fd / 10, 48 + fd % 10]) ++ [48 + fh / 10, 48 + fh % 10]).length (vals (((([48 + fy / 10, 48 + fy % 10] ++ [48 + fq / 10, 48 + fq % 10]) ++ [48 + fm / 10, 48 + fm % 10]) ++ [48 + fd / 10, 48 + fd % 10]) ++ [48 + fh / 10, 48 + fh % 10])) rfl (hown.alloc _) (some ⟨w22.heap.size, 0, none⟩) 2 2 [48 + fn / 10, 48 + fn % 10] rfl hbn (by first | omega | (simp only [List.length_append, List.length_cons, List.length_nil]; omega)) (by simp; omega) ?_; intro v23 w23 ho hg)
            obtain ⟨hown', hbw'⟩ := own_next hbw hown (zs := ((((([48 + fy / 10, 48 + fy % 10] ++ [48 + fq / 10, 48 + fq % 10]) ++ [48 + fm / 10, 48 + fm % 10]) ++ [48 + fd / 10, 48 + fd % 10]) ++ [48 + fh / 10, 48 + fh % 10]) ++ [48 + fn / 10, 48 + fn % 10])) rfl rfl ho hg
            have hbs23 := hbw'.size
            clear ho hg hown hbw hbn
            have hown := hown'
            have hbw := hbw'
            clear hown' hbw'
            go_wp2_with fail
            refine (two_at _ fs _ HFS (by omega) (by omega)).mono ?_
            rintro e wz ⟨rfl, rfl⟩
            have hbn : Bys (w23.alloc (.cells #[.int .u8 (48 + fs / 10), .int .u8 (48 + fs % 10)] 5)) (some ⟨w23.heap.size, 0, none⟩) 2 [48 + fs / 10, 48 + fs % 10] := bys_new2 w23 _ (by omega) (by omega)
            go_wp2_with (first | ((at_builtin; refine wpl_app rfl (.tmp 80) (.tmp 83) 22 rfl w.heap.size 5 i0 (.int .u8 0) Tryd.underlying22 hi hz0 hz1 hz2 rfl v23 ((((([48 + fy / 10, 48 + fy % 10] ++ [48 + fq / 10, 48 + fq % 10]) ++ [48 + fm / 10, 48 + fm % 10]) ++ [48 + fd / 10, 48 + fd % 10]) ++ [48 + fh / 10, 48 + fh % 10]) ++ [48 + fn / 10, 48 + fn % 10]).length (vals ((((([48 + fy / 10, 48 + fy % 10] ++ [48 + fq / 10, 48 + fq % 10]) ++ [48 + fm / 10, 48 + fm % 10]) ++ [48 + fd / 10, 48 + fd % 10]) ++ [48 + fh / 10, 48 + fh % 10]) ++ [48 + fn / 10, 48 + fn % 10])) rfl (hown.alloc _) (some ⟨w23.heap.size, 0, none⟩) 2 2 [48 + fs / 10, 48 + fs % 10] rfl hbn (by first | omega | (simp only [List.length_append, List.length_cons, List.length_nil]; omega)) (by simp; omega) ?_; intro v24 w24 ho hg); obtain ⟨hown', hbw'⟩ := own_next hbw hown (zs := (((((([48 + fy / 10, 48 + fy % 10] ++ [48 + fq / 10, 48 + fq % 10]) ++ [48 + fm / 10, 48 + fm % 10]) ++ [48 + fd / 10, 48 + fd % 10]) ++ [48 + fh / 10, 48 + fh % 10]) ++ [48 + fn / 10, 48 + fn % 10]) ++ [48 + fs / 10, 48 + fs % 10])) rfl rfl ho hg; have hbs24 := hbw'.size; clear ho hg hown hbw hbn; have hown := hown'; have hbw := hbw'; clear hown' hbw'; have hbn : Bys (w24.alloc (.cells #[.int .u8 90] 5)) (some ⟨w24.heap.size, 0, none⟩) 1 [90] := bys_new1 w24 _ (by omega)) | (at_builtin; refine wpl_app rfl (.tmp 86) (.tmp 87) 22 rfl w.heap.size 5 i0 (.int .u8 0) Tryd.underlying22 hi hz0 hz1 hz2 rfl v24 (((((([48 + fy / 10, 48 + fy % 10] ++ [48 + fq / 10, 48 + fq % 10]) ++ [48 + fm / 10, 48 + fm % 10]) ++ [48 + fd / 10, 48 + fd % 10]) ++ [48 + fh / 10, 48 + fh % 10]) ++ [48 + fn / 10, 48 + fn % 10]) ++ [48 + fs / 10, 48 + fs % 10]).length (vals (((((([48 + fy / 10, 48 + fy % 10] ++ [48 + fq / 10, 48 + fq % 10]) ++ [48 + fm / 10, 48 + fm % 10]) ++ [48 + fd / 10, 48 + fd % 10]) ++ [48 + fh / 10, 48 + fh % 10]) ++ [48 + fn / 10, 48 + fn % 10]) ++ [48 + fs / 10, 48 + fs % 10])) rfl (hown.alloc _) (some ⟨w24.heap.size, 0, none⟩) 1 1 [90] rfl hbn (by first | omega | (simp only [List.length_append, List.length_cons, List.length_nil]; omega)) (by simp; omega) ?_; intro v30 w30 ho hg))
            obtain ⟨hown', hbw'⟩ := own_next hbw hown (zs := (((((([48 + fy / 10, 48 + fy % 10] ++ [48 + fq / 10, 48 + fq % 10]) ++ [48 + fm / 10, 48 + fm % 10]) ++ [48 + fd / 10, 48 + fd % 10]) ++ [48 + fh / 10, 48 + fh % 10]) ++ [48 + fn / 10, 48 + fn % 10]) ++ [48 + fs / 10, 48 + fs % 10]) ++ [90]) rfl rfl ho hg
            clear ho hg hown hbw hbn
            have hfin := HF.out v30 w30 (by first | exact hown' | simpa [vals] using hown') hbw'
            clear hown' hbw'
            go_wp2
            go_ret3
            exact hfin
        · have hk2 : k + 1 < 12 := by
            rcases Nat.lt_or_ge (k + 1) 12 with h | h
            · exact h
            · have e : k = 11 := by omega
              subst e
              have : cum L (11 + 1) = 365 + L := rfl
              omega
          have hcs' : R - cum L k - mon L k = R - cum L (k + 1) := by omega
          have hp : 0 ≤ R - cum L (k + 1) := by omega
          have HC := Lib.hid hcs'
          clear hcs hcs'
          go_wp2_with fail
          refine (month_any _ k _ (by omega) (by omega) hk).mono ?_
          rw [HL.out]
          rintro e w1 ⟨rfl, hbm⟩
          have hbw1 := hbw.trans (hbm.mono hbw.size)
          clear hbw hbm
          go_wp2_with fail
          refine (month_any _ k _ (by omega) (by omega) hk).mono ?_
          rw [HL.out]
          rintro e w2 ⟨rfl, hbm⟩
          have hbw2 := hbw1.trans (hbm.mono hbw1.size)
          clear hbw1 hbm
          go_wp2_with fail
          go_roundw
          case rel => exact ⟨k + 1, hk2, hp, by rw [HC.out], by go_num, hbw2⟩
          case measure => simp [intOf]; omega
end Go.Proofs.YtajiolcdjjkedaaDoor.txc
