/- Which body is a time's by the document's own way, and which time's: the same as by the program's. No run in this text. -/
import Derived.Test.YtaafgohaikhekaaDoorXf
import Derived.Test.YtaafgohaikhekaaDoorXb
namespace Go.Proofs.YtaafgohaikhekaaDoor.txm
open Go.Proofs.YtaafgohaikhekaaDoor.txc
set_option linter.unusedVariables false

def TailOk (Y m d h n s z : Int) : Prop := z = 90 ∧ (1 ≤ m ∧ m ≤ 12) ∧ 1 ≤ d ∧ (0 ≤ h ∧ h ≤ 23) ∧ (0 ≤ n ∧ n ≤ 59) ∧ (0 ≤ s ∧ s ≤ 59) ∧ d ≤ mon (lp Y) (m - 1).toNat

theorem clk_secAt {Y m d h n s : Int} (hY : 1950 ≤ Y) (hY2 : Y ≤ 9999) (hm : 1 ≤ m ∧ m ≤ 12) (hd : 1 ≤ d) (hh : 0 ≤ h ∧ h ≤ 23) (hn : 0 ≤ n ∧ n ≤ 59) (hs : 0 ≤ s ∧ s ≤ 59) (hdm : d ≤ mon (lp Y) (m - 1).toNat) :
    InR (secAt Y m d h n s) ∧ yOf (secAt Y m d h n s) = Y ∧ clk (secAt Y m d h n s) = [Y / 100, Y % 100, m, d, h, n, s] := by
  obtain ⟨k, hk⟩ : ∃ k : Nat, (m - 1).toNat = k := ⟨_, rfl⟩
  have hk12 : k < 12 := by omega
  have hix : mIx m = k := by unfold mIx; omega
  rw [hk] at hdm
  obtain ⟨l0, l1⟩ := lp_01 (y := Y) (by omega)
  have hcs := cum_step (lp Y) hk12
  have hc0 := cum_bd l0 l1 k
  have hc12 := cum_mono l0 l1 12 (k + 1) (by omega) (Nat.le_refl _)
  rw [cum_12] at hc12
  have hst := dto_step (y := Y)
  have d0 := dto_mono (a := 1950) (b := Y) (by omega) hY
  have d1 := dto_mono (a := Y + 1) (b := 10000) (by omega) (by omega)
  rw [dto_1950] at d0
  rw [dto_10000] at d1
  obtain ⟨D, hD⟩ : ∃ D, daysAt Y m d = D := ⟨_, rfl⟩
  have hD' : D = dto Y + d - 1 + cum (lp Y) k := by rw [← hD]; unfold daysAt; rw [hix]
  obtain ⟨S, hS⟩ : ∃ S, secAt Y m d h n s = S := ⟨_, rfl⟩
  have hS' : S = -631152000 + ((D * 24 + h) * 60 + n) * 60 + s := by rw [← hS, ← hD]; rfl
  rw [hS]
  have hr : InR S := by unfold InR; omega
  have hday : dayOf S = D := by unfold dayOf; omega
  have hy : yOf S = Y := by unfold yOf; rw [hday]; exact (yearOf_uniq (by omega) (by omega) (by omega) (by omega) (by omega)).symm
  have hrr : rOf S = cum (lp Y) k + d - 1 := by unfold rOf; rw [hday, hy]; omega
  have hmo : mOf S = k := by unfold mOf; rw [hy, hrr]; exact (monOf_uniq l0 l1 (by omega) (by omega) hk12 (by omega) (by omega)).symm
  refine ⟨hr, hy, ?_⟩
  unfold clk
  rw [hy, hmo, hrr]
  have e1 : (k : Int) + 1 = m := by omega
  have e2 : cum (lp Y) k + d - 1 - cum (lp Y) k + 1 = d := by omega
  have e3 : (S + 631152000) / 60 / 60 % 24 = h := by omega
  have e4 : (S + 631152000) / 60 % 60 = n := by omega
  have e5 : (S + 631152000) % 60 = s := by omega
  rw [e1, e2, e3, e4, e5]
theorem clk_facts {S : Int} (hr : InR S) : ∃ c2 c3 c4 c5 c6 : Int, clk S = [yOf S / 100, yOf S % 100, c2, c3, c4, c5, c6] ∧ (1 ≤ c2 ∧ c2 ≤ 12) ∧ (1 ≤ c3 ∧ c3 ≤ 99) ∧ (0 ≤ c4 ∧ c4 ≤ 23) ∧ (0 ≤ c5 ∧ c5 ≤ 59) ∧ (0 ≤ c6 ∧ c6 ≤ 59) ∧ c3 ≤ mon (lp (yOf S)) (c2 - 1).toNat := by
  have hm := (m_spec hr).2.2
  have hd := d_bd hr
  refine ⟨_, _, _, _, _, rfl, ?_, ?_, ?_, ?_, ?_, ?_⟩
  · omega
  · omega
  · omega
  · omega
  · omega
  · rw [show ((mOf S : Int) + 1 - 1).toNat = mOf S by omega]; omega
theorem dig2_wr {n : Int} (h : 0 ≤ n) (h2 : n ≤ 99) : dig2 (48 + n / 10) (48 + n % 10) = n := by unfold dig2; rw [if_pos (by omega)]; omega
theorem dig2_inv {a b n : Int} (e : dig2 a b = n) (h : 0 ≤ n) : a = 48 + n / 10 ∧ b = 48 + n % 10 := by unfold dig2 at e; split at e <;> omega
theorem time_no {t : Int} {xs : List Int} (h : ¬ OkT t xs) : timeN t xs = 0 ∧ timeE t xs = 32 := ⟨if_neg h, if_neg h⟩
theorem time_yes {t S : Int} {xs : List Int} (hr : InR S) (ht : tagOf S = t) (hb : bodyOf S = xs) : timeN t xs = S ∧ timeE t xs = 0 := by
  obtain ⟨a, b⟩ := okT_back hr
  rw [ht, hb] at a b
  exact ⟨(if_pos a).trans b, if_pos a⟩
theorem time_else {t : Int} {xs : List Int} (h1 : ¬ (t = 23 ∧ xs.length = 13)) (h2 : ¬ (t = 24 ∧ xs.length = 15)) : timeN t xs = 0 ∧ timeE t xs = 32 := by
  refine time_no ?_
  rintro ⟨hr, ht, hb⟩
  have hl := bodyOf_len (s := timeS t xs)
  rw [hb] at hl
  unfold tagOf at ht
  split at ht
  · rename_i h; rw [if_pos h] at hl; exact h2 ⟨ht.symm, hl⟩
  · rename_i h; rw [if_neg h] at hl; exact h1 ⟨ht.symm, hl⟩
theorem plain23 {xs : List Int} (hl : xs.length = 13) {p m d h n s z : Int} (e0 : dig2 (xs.getD 0 0) (xs.getD 1 0) = p) (e1 : dig2 (xs.getD 2 0) (xs.getD 3 0) = m) (e2 : dig2 (xs.getD 4 0) (xs.getD 5 0) = d) (e3 : dig2 (xs.getD 6 0) (xs.getD 7 0) = h) (e4 : dig2 (xs.getD 8 0) (xs.getD 9 0) = n) (e5 : dig2 (xs.getD 10 0) (xs.getD 11 0) = s) (ez : xs.getD 12 0 = z) {Y : Int} (hY : (0 ≤ p ∧ p < 50 → Y = 2000 + p) ∧ (50 ≤ p → Y = 1900 + p)) :
    (0 ≤ p → TailOk Y m d h n s z → timeN 23 xs = secAt Y m d h n s ∧ timeE 23 xs = 0) ∧ (¬ ((0 ≤ p) ∧ TailOk Y m d h n s z) → timeN 23 xs = 0 ∧ timeE 23 xs = 32) := by
  constructor
  · rintro hp ⟨hz, hm, hd, hh, hn, hs, hdm⟩
    have hb := dig2_bd (xs.getD 0 0) (xs.getD 1 0)
    rw [e0] at hb
    have hY1 : (1950 ≤ Y ∧ Y ≤ 2049) ∧ Y % 100 = p := by
      rcases Int.lt_or_le p 50 with h | h
      · have := hY.1 ⟨hp, h⟩; omega
      · have := hY.2 h; omega
    obtain ⟨hr, hy, hc⟩ := clk_secAt (Y := Y) (by omega) (by omega) hm hd hh hn hs hdm
    obtain ⟨S, hS⟩ : ∃ S, secAt Y m d h n s = S := ⟨_, rfl⟩
    rw [hS] at hr hy hc ⊢
    have ty := tag_year hr
    rw [hy] at ty
    have ht : tagOf S = 23 := by unfold tagOf; exact if_neg (fun h => by have := ty.1 h; omega)
    refine time_yes hr ht ?_
    unfold bodyOf
    rw [ht, hc]
    have i0 := dig2_inv e0 (by omega)
    have i1 := dig2_inv e1 (by omega)
    have i2 := dig2_inv e2 (by omega)
    have i3 := dig2_inv e3 (by omega)
    have i4 := dig2_inv e4 (by omega)
    have i5 := dig2_inv e5 (by omega)
    clear hS
    rcases xs with _ | ⟨x0, xs⟩
    · exact absurd hl (by simp)
    rcases xs with _ | ⟨x1, xs⟩
    · exact absurd hl (by simp)
    rcases xs with _ | ⟨x2, xs⟩
    · exact absurd hl (by simp)
    rcases xs with _ | ⟨x3, xs⟩
    · exact absurd hl (by simp)
    rcases xs with _ | ⟨x4, xs⟩
    · exact absurd hl (by simp)
    rcases xs with _ | ⟨x5, xs⟩
    · exact absurd hl (by simp)
    rcases xs with _ | ⟨x6, xs⟩
    · exact absurd hl (by simp)
    rcases xs with _ | ⟨x7, xs⟩
    · exact absurd hl (by simp)
    rcases xs with _ | ⟨x8, xs⟩
    · exact absurd hl (by simp)
    rcases xs with _ | ⟨x9, xs⟩
    · exact absurd hl (by simp)
    rcases xs with _ | ⟨x10, xs⟩
    · exact absurd hl (by simp)
    rcases xs with _ | ⟨x11, xs⟩
    · exact absurd hl (by simp)
    rcases xs with _ | ⟨x12, xs⟩
    · exact absurd hl (by simp)
    obtain rfl : xs = [] := by simpa using hl
    obtain ⟨j0a, j0b⟩ : x0 = _ ∧ x1 = _ := i0
    obtain ⟨j1a, j1b⟩ : x2 = _ ∧ x3 = _ := i1
    obtain ⟨j2a, j2b⟩ : x4 = _ ∧ x5 = _ := i2
    obtain ⟨j3a, j3b⟩ : x6 = _ ∧ x7 = _ := i3
    obtain ⟨j4a, j4b⟩ : x8 = _ ∧ x9 = _ := i4
    obtain ⟨j5a, j5b⟩ : x10 = _ ∧ x11 = _ := i5
    have jz : x12 = z := ez
    rw [hY1.2]
    rw [jz, hz, j0a, j0b, j1a, j1b, j2a, j2b, j3a, j3b, j4a, j4b, j5a, j5b]
    rfl
  · intro hno
    refine time_no ?_
    rintro ⟨hr, ht, hb⟩
    refine hno ?_
    clear hno
    obtain ⟨S, hS⟩ : ∃ S, timeS 23 xs = S := ⟨_, rfl⟩
    rw [hS] at hr ht hb
    clear hS
    have ty := tag_year hr
    have hys := y_spec hr
    obtain ⟨c2, c3, c4, c5, c6, hc, f2, f3, f4, f5, f6, f7⟩ := clk_facts hr
    have hyb : yOf S < 2050 := by
      unfold tagOf at ht
      split at ht
      · rename_i h; exact absurd ht (by decide)
      · rename_i h; exact Int.not_le.1 (fun h2 => h (ty.2 h2))
    unfold bodyOf at hb
    rw [ht, hc] at hb
    obtain ⟨Z, hZ⟩ : ∃ Z, yOf S = Z := ⟨_, rfl⟩
    rw [hZ] at hb f7 hys hyb
    clear hc hZ ty ht hr hl
    have hb : [48 + Z % 100 / 10, 48 + Z % 100 % 10, 48 + c2 / 10, 48 + c2 % 10, 48 + c3 / 10, 48 + c3 % 10, 48 + c4 / 10, 48 + c4 % 10, 48 + c5 / 10, 48 + c5 % 10, 48 + c6 / 10, 48 + c6 % 10, 90] = xs := hb
    subst hb
    have g0 : p = Z % 100 := e0.symm.trans (dig2_wr (by omega) (by omega))
    have g1 : m = c2 := e1.symm.trans (dig2_wr (by omega) (by omega))
    have g2 : d = c3 := e2.symm.trans (dig2_wr (by omega) (by omega))
    have g3 : h = c4 := e3.symm.trans (dig2_wr (by omega) (by omega))
    have g4 : n = c5 := e4.symm.trans (dig2_wr (by omega) (by omega))
    have g5 : s = c6 := e5.symm.trans (dig2_wr (by omega) (by omega))
    have gz : z = 90 := ez.symm
    clear e0 e1 e2 e3 e4 e5 ez
    have hYZ : Y = Z := by
      rcases Int.lt_or_le p 50 with h | h
      · have := hY.1 ⟨by omega, h⟩; omega
      · have := hY.2 h; omega
    clear hY
    subst hYZ
    subst g1 g2 g3 g4 g5 gz
    exact ⟨by omega, rfl, f2, f3.1, f4, f5, f6, f7⟩
theorem plain24 {xs : List Int} (hl : xs.length = 15) {p q m d h n s z : Int} (e0 : dig2 (xs.getD 0 0) (xs.getD 1 0) = p) (e1 : dig2 (xs.getD 2 0) (xs.getD 3 0) = q) (e2 : dig2 (xs.getD 4 0) (xs.getD 5 0) = m) (e3 : dig2 (xs.getD 6 0) (xs.getD 7 0) = d) (e4 : dig2 (xs.getD 8 0) (xs.getD 9 0) = h) (e5 : dig2 (xs.getD 10 0) (xs.getD 11 0) = n) (e6 : dig2 (xs.getD 12 0) (xs.getD 13 0) = s) (ez : xs.getD 14 0 = z)  :
    ((0 ≤ p ∧ 0 ≤ q ∧ 2050 ≤ 100 * p + q) → TailOk (100 * p + q) m d h n s z → timeN 24 xs = secAt (100 * p + q) m d h n s ∧ timeE 24 xs = 0) ∧ (¬ ((0 ≤ p ∧ 0 ≤ q ∧ 2050 ≤ 100 * p + q) ∧ TailOk (100 * p + q) m d h n s z) → timeN 24 xs = 0 ∧ timeE 24 xs = 32) := by
  constructor
  · rintro ⟨hp, hq, hpq⟩ ⟨hz, hm, hd, hh, hn, hs, hdm⟩
    have hb := dig2_bd (xs.getD 0 0) (xs.getD 1 0)
    rw [e0] at hb
    have hb' := dig2_bd (xs.getD 2 0) (xs.getD 3 0)
    rw [e1] at hb'
    obtain ⟨hr, hy, hc⟩ := clk_secAt (Y := 100 * p + q) (by omega) (by omega) hm hd hh hn hs hdm
    obtain ⟨S, hS⟩ : ∃ S, secAt (100 * p + q) m d h n s = S := ⟨_, rfl⟩
    rw [hS] at hr hy hc ⊢
    have ty := tag_year hr
    rw [hy] at ty
    have ht : tagOf S = 24 := by unfold tagOf; exact if_pos (ty.2 (by omega))
    refine time_yes hr ht ?_
    unfold bodyOf
    rw [ht, hc]
    have i0 := dig2_inv e0 (by omega)
    have i1 := dig2_inv e1 (by omega)
    have i2 := dig2_inv e2 (by omega)
    have i3 := dig2_inv e3 (by omega)
    have i4 := dig2_inv e4 (by omega)
    have i5 := dig2_inv e5 (by omega)
    have i6 := dig2_inv e6 (by omega)
    clear hS
    rcases xs with _ | ⟨x0, xs⟩
    · exact absurd hl (by simp)
    rcases xs with _ | ⟨x1, xs⟩
    · exact absurd hl (by simp)
    rcases xs with _ | ⟨x2, xs⟩
    · exact absurd hl (by simp)
    rcases xs with _ | ⟨x3, xs⟩
    · exact absurd hl (by simp)
    rcases xs with _ | ⟨x4, xs⟩
    · exact absurd hl (by simp)
    rcases xs with _ | ⟨x5, xs⟩
    · exact absurd hl (by simp)
    rcases xs with _ | ⟨x6, xs⟩
    · exact absurd hl (by simp)
    rcases xs with _ | ⟨x7, xs⟩
    · exact absurd hl (by simp)
    rcases xs with _ | ⟨x8, xs⟩
    · exact absurd hl (by simp)
    rcases xs with _ | ⟨x9, xs⟩
    · exact absurd hl (by simp)
    rcases xs with _ | ⟨x10, xs⟩
    · exact absurd hl (by simp)
    rcases xs with _ | ⟨x11, xs⟩
    · exact absurd hl (by simp)
    rcases xs with _ | ⟨x12, xs⟩
    · exact absurd hl (by simp)
    rcases xs with _ | ⟨x13, xs⟩
    · exact absurd hl (by simp)
    rcases xs with _ | ⟨x14, xs⟩
    · exact absurd hl (by simp)
    obtain rfl : xs = [] := by simpa using hl
    obtain ⟨j0a, j0b⟩ : x0 = _ ∧ x1 = _ := i0
    obtain ⟨j1a, j1b⟩ : x2 = _ ∧ x3 = _ := i1
    obtain ⟨j2a, j2b⟩ : x4 = _ ∧ x5 = _ := i2
    obtain ⟨j3a, j3b⟩ : x6 = _ ∧ x7 = _ := i3
    obtain ⟨j4a, j4b⟩ : x8 = _ ∧ x9 = _ := i4
    obtain ⟨j5a, j5b⟩ : x10 = _ ∧ x11 = _ := i5
    obtain ⟨j6a, j6b⟩ : x12 = _ ∧ x13 = _ := i6
    have jz : x14 = z := ez
    have u1 : (100 * p + q) / 100 = p := by omega
    have u2 : (100 * p + q) % 100 = q := by omega
    rw [u1, u2]
    rw [jz, hz, j0a, j0b, j1a, j1b, j2a, j2b, j3a, j3b, j4a, j4b, j5a, j5b, j6a, j6b]
    rfl
  · intro hno
    refine time_no ?_
    rintro ⟨hr, ht, hb⟩
    refine hno ?_
    clear hno
    obtain ⟨S, hS⟩ : ∃ S, timeS 24 xs = S := ⟨_, rfl⟩
    rw [hS] at hr ht hb
    clear hS
    have ty := tag_year hr
    have hys := y_spec hr
    obtain ⟨c2, c3, c4, c5, c6, hc, f2, f3, f4, f5, f6, f7⟩ := clk_facts hr
    have hyb : 2050 ≤ yOf S := by
      unfold tagOf at ht
      split at ht
      · rename_i h; exact ty.1 h
      · rename_i h; exact absurd ht (by decide)
    unfold bodyOf at hb
    rw [ht, hc] at hb
    obtain ⟨Z, hZ⟩ : ∃ Z, yOf S = Z := ⟨_, rfl⟩
    rw [hZ] at hb f7 hys hyb
    clear hc hZ ty ht hr hl
    have hb : [48 + Z / 100 / 10, 48 + Z / 100 % 10, 48 + Z % 100 / 10, 48 + Z % 100 % 10, 48 + c2 / 10, 48 + c2 % 10, 48 + c3 / 10, 48 + c3 % 10, 48 + c4 / 10, 48 + c4 % 10, 48 + c5 / 10, 48 + c5 % 10, 48 + c6 / 10, 48 + c6 % 10, 90] = xs := hb
    subst hb
    have g0 : p = Z / 100 := e0.symm.trans (dig2_wr (by omega) (by omega))
    have g1 : q = Z % 100 := e1.symm.trans (dig2_wr (by omega) (by omega))
    have g2 : m = c2 := e2.symm.trans (dig2_wr (by omega) (by omega))
    have g3 : d = c3 := e3.symm.trans (dig2_wr (by omega) (by omega))
    have g4 : h = c4 := e4.symm.trans (dig2_wr (by omega) (by omega))
    have g5 : n = c5 := e5.symm.trans (dig2_wr (by omega) (by omega))
    have g6 : s = c6 := e6.symm.trans (dig2_wr (by omega) (by omega))
    have gz : z = 90 := ez.symm
    clear e0 e1 e2 e3 e4 e5 e6 ez
    have hYZ : 100 * p + q = Z := by omega
    rw [hYZ]
    subst g2 g3 g4 g5 g6 gz
    exact ⟨⟨by omega, by omega, hyb⟩, rfl, f2, f3.1, f4, f5, f6, f7⟩
end Go.Proofs.YtaafgohaikhekaaDoor.txm
