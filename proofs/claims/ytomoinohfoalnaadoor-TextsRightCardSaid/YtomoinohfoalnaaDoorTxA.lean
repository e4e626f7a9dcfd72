/- Plain facts on the calendar: days from the beginning of 1950 to that of a year; the year and the month of a day. No run in this text. -/
namespace Go.Proofs.YtomoinohfoalnaaDoor.txm

/-- How many years from 1 on, and ahead of y, have 366 days. -/
def lp4 (y : Int) : Int := (y - 1) / 4 - (y - 1) / 100 + (y - 1) / 400
/-- The same as Go reckons it. -/
def lpG (y : Int) : Int := (y - 1).tdiv 4 - (y - 1).tdiv 100 + (y - 1).tdiv 400
theorem lpG_pos {y : Int} (h : 1 ≤ y) : lpG y = lp4 y := by
  unfold lpG lp4
  rw [Int.tdiv_eq_ediv_of_nonneg (by omega), Int.tdiv_eq_ediv_of_nonneg (by omega), Int.tdiv_eq_ediv_of_nonneg (by omega)]
theorem lpG_zero : lpG 0 = 0 := by decide
theorem lp4_bd {y : Int} (h : 1 ≤ y) (h2 : y ≤ 1000000) : 0 ≤ lp4 y ∧ lp4 y ≤ 250000 := by unfold lp4; omega
theorem lpG_bd {y : Int} (h : 0 ≤ y) (h2 : y ≤ 1000000) : 0 ≤ lpG y ∧ lpG y ≤ 250000 := by
  by_cases h0 : y = 0
  · subst h0; decide
  · rw [lpG_pos (by omega)]; exact lp4_bd (by omega) h2

/-- 1: y has 366 days; else 0. -/
def lp (y : Int) : Int := lpG (y + 1) - lpG y
theorem lp_01 {y : Int} (h : 0 ≤ y) : 0 ≤ lp y ∧ lp y ≤ 1 := by
  unfold lp
  by_cases h0 : y = 0
  · subst h0; decide
  · rw [lpG_pos (by omega), lpG_pos (by omega)]; unfold lp4; omega

/-- Days from the beginning of 1950 to that of y. -/
def dto (y : Int) : Int := 365 * (y - 1950) + lpG y - 472
theorem dto_pos {y : Int} (h : 1 ≤ y) : dto y = 365 * (y - 1950) + ((y - 1) / 4 - (y - 1) / 100 + (y - 1) / 400) - 472 := by
  unfold dto; rw [lpG_pos h]; rfl
theorem dto_bd {y : Int} (h : 0 ≤ y) (h2 : y ≤ 1000000) : -712222 ≤ dto y ∧ dto y ≤ 364538028 := by
  have := lpG_bd h h2
  unfold dto; omega
theorem dto_low {y : Int} (h : 0 ≤ y) (h2 : y < 1950) : dto y ≤ -365 := by
  by_cases h0 : y = 0
  · subst h0; decide
  · rw [dto_pos (by omega)]; omega
theorem dto_step {y : Int} : dto (y + 1) = dto y + 365 + lp y := by unfold dto lp; omega
theorem dto_mono {a b : Int} (h : 1 ≤ a) (h2 : a ≤ b) : dto a ≤ dto b := by rw [dto_pos h, dto_pos (by omega)]; omega
theorem dto_lt {a b : Int} (h : 1 ≤ a) (h2 : a < b) : dto a < dto b := by
  have h1 := dto_mono (a := a + 1) (b := b) (by omega) (by omega)
  have h3 := dto_step (y := a)
  have h4 := lp_01 (y := a) (by omega)
  omega
theorem dto_1950 : dto 1950 = 0 := by decide
theorem dto_2050 : dto 2050 = 36525 := by decide
theorem dto_10000 : dto 10000 = 2940202 := by decide
/-- The first guess is not too late. -/
theorem dto_guess {d : Int} (h : 0 ≤ d) : dto (1950 + d / 366) ≤ d := by rw [dto_pos (by omega)]; omega
theorem guess_bd {d : Int} (h : 0 ≤ d) (h2 : d < 2940202) : 1950 ≤ 1950 + d / 366 ∧ 1950 + d / 366 ≤ 9999 := by omega

/-- The year of a day. -/
def yearF : Nat → Int → Int → Int
  | 0, y, _ => y
  | n + 1, y, d => if dto (y + 1) ≤ d then yearF n (y + 1) d else y
def yearOf (d : Int) : Int := yearF 8050 1950 d
theorem yearF_spec : ∀ (n : Nat) (y d : Int), 1950 ≤ y → y + n = 10000 → dto y ≤ d → d < 2940202 → dto (yearF n y d) ≤ d ∧ d < dto (yearF n y d + 1) ∧ 1950 ≤ yearF n y d ∧ (yearF n y d ≤ 9999)
  | 0, y, d, h1, h2, h3, h4 => by
    have : y = 10000 := by omega
    subst this
    rw [dto_10000] at h3; omega
  | n + 1, y, d, h1, h2, h3, h4 => by
    unfold yearF
    split
    · exact yearF_spec n (y + 1) d (by omega) (by omega) (by assumption) h4
    · exact ⟨h3, by omega, h1, by omega⟩
theorem yearOf_spec {d : Int} (h : 0 ≤ d) (h2 : d < 2940202) : dto (yearOf d) ≤ d ∧ d < dto (yearOf d + 1) ∧ 1950 ≤ yearOf d ∧ yearOf d ≤ 9999 :=
  yearF_spec 8050 1950 d (by omega) (by omega) (by rw [dto_1950]; exact h) h2
theorem yearOf_uniq {d y : Int} (h : 0 ≤ d) (h2 : d < 2940202) (hy : 1 ≤ y) (h3 : dto y ≤ d) (h4 : d < dto (y + 1)) : y = yearOf d := by
  obtain ⟨a, b, c, _⟩ := yearOf_spec h h2
  rcases Int.lt_trichotomy y (yearOf d) with hl | he | hg
  · have := dto_mono (a := y + 1) (b := yearOf d) (by omega) (by omega); omega
  · exact he
  · have := dto_mono (a := yearOf d + 1) (b := y) (by omega) (by omega); omega

/-- A year's months, by their days; l: 1 in a year of 366. -/
def mon (l : Int) : Nat → Int
  | 0 => 31 | 1 => 28 + l | 2 => 31 | 3 => 30 | 4 => 31 | 5 => 30 | 6 => 31 | 7 => 31 | 8 => 30 | 9 => 31 | 10 => 30 | _ => 31
def cum (l : Int) : Nat → Int
  | 0 => 0 | 1 => 31 | 2 => 59 + l | 3 => 90 + l | 4 => 120 + l | 5 => 151 + l | 6 => 181 + l | 7 => 212 + l | 8 => 243 + l | 9 => 273 + l | 10 => 304 + l | 11 => 334 + l | _ => 365 + l
theorem twelve {i : Nat} (h : i < 12) : i = 0 ∨ i = 1 ∨ i = 2 ∨ i = 3 ∨ i = 4 ∨ i = 5 ∨ i = 6 ∨ i = 7 ∨ i = 8 ∨ i = 9 ∨ i = 10 ∨ i = 11 := by omega
theorem cum_step (l : Int) {i : Nat} (h : i < 12) : cum l (i + 1) = cum l i + mon l i := by
  rcases twelve h with rfl | rfl | rfl | rfl | rfl | rfl | rfl | rfl | rfl | rfl | rfl | rfl <;> simp only [cum, mon] <;> omega
theorem mon_bd {l : Int} (h0 : 0 ≤ l) (h1 : l ≤ 1) (i : Nat) : 28 ≤ mon l i ∧ mon l i ≤ 31 := by
  unfold mon; split <;> omega
theorem cum_bd {l : Int} (h0 : 0 ≤ l) (h1 : l ≤ 1) (i : Nat) : 0 ≤ cum l i ∧ cum l i ≤ 366 := by
  unfold cum; split <;> omega
theorem cum_12 (l : Int) : cum l 12 = 365 + l := rfl
theorem cum_mono {l : Int} (h0 : 0 ≤ l) (h1 : l ≤ 1) : ∀ (j i : Nat), i ≤ j → j ≤ 12 → cum l i ≤ cum l j
  | 0, i, h, _ => by
    have : i = 0 := by omega
    subst this; exact Int.le_refl _
  | j + 1, i, h, hj => by
    by_cases e : i = j + 1
    · subst e; exact Int.le_refl _
    · have := cum_mono h0 h1 j i (by omega) (by omega)
      have := cum_step l (i := j) (by omega)
      have := mon_bd h0 h1 j
      omega

/-- The month of a year's day: 0 is the first one. -/
def monF (l r : Int) : Nat → Nat → Nat
  | 0, i => i
  | n + 1, i => if r < cum l (i + 1) then i else monF l r n (i + 1)
def monOf (l r : Int) : Nat := monF l r 12 0
theorem monF_spec {l r : Int} (hr : r < 365 + l) : ∀ (n i : Nat), i + n = 12 → cum l i ≤ r → cum l (monF l r n i) ≤ r ∧ r < cum l (monF l r n i + 1) ∧ monF l r n i < 12
  | 0, i, h, h2 => by
    have : i = 12 := by omega
    subst this
    rw [cum_12] at h2; omega
  | n + 1, i, h, h2 => by
    unfold monF
    split
    · exact ⟨h2, by assumption, by omega⟩
    · exact monF_spec hr n (i + 1) (by omega) (by omega)
theorem monOf_spec {l r : Int} (h : 0 ≤ r) (hr : r < 365 + l) : cum l (monOf l r) ≤ r ∧ r < cum l (monOf l r + 1) ∧ monOf l r < 12 :=
  monF_spec hr 12 0 rfl h
theorem monOf_uniq {l r : Int} {i : Nat} (h0 : 0 ≤ l) (h1 : l ≤ 1) (h : 0 ≤ r) (hr : r < 365 + l) (hi : i < 12) (h3 : cum l i ≤ r) (h4 : r < cum l (i + 1)) : i = monOf l r := by
  obtain ⟨a, b, c⟩ := monOf_spec h hr
  rcases Nat.lt_trichotomy i (monOf l r) with hl | he | hg
  · have := cum_mono h0 h1 (monOf l r) (i + 1) (by omega) (by omega); omega
  · exact he
  · have := cum_mono h0 h1 i (monOf l r + 1) (by omega) (by omega); omega
theorem lp_eq {y : Int} (h : 1 ≤ y) : lp y = (y / 4 - (y - 1) / 4) - (y / 100 - (y - 1) / 100) + (y / 400 - (y - 1) / 400) := by
  unfold lp; rw [lpG_pos (by omega), lpG_pos (by omega)]; unfold lp4; rw [Int.add_sub_cancel]; omega
theorem step4 (y : Int) : y / 4 - (y - 1) / 4 = if y % 4 = 0 then 1 else 0 := by split <;> omega
theorem step100 (y : Int) : y / 100 - (y - 1) / 100 = if y % 100 = 0 then 1 else 0 := by split <;> omega
theorem step400 (y : Int) : y / 400 - (y - 1) / 400 = if y % 400 = 0 then 1 else 0 := by split <;> omega
theorem lp_if {y : Int} (h : 1 ≤ y) : lp y = (if y % 4 = 0 then 1 else 0) - (if y % 100 = 0 then 1 else 0) + (if y % 400 = 0 then 1 else 0) := by rw [lp_eq h, step4, step100, step400]
theorem m4 {y : Int} (h : ¬ y % 4 = 0) : ¬ y % 100 = 0 ∧ ¬ y % 400 = 0 := by omega
theorem m100 {y : Int} (h : ¬ y % 100 = 0) : ¬ y % 400 = 0 := by omega
theorem lp_a {y : Int} (h : 1 ≤ y) (h4 : ¬ y % 4 = 0) : lp y = 0 := by rw [lp_if h, if_neg h4, if_neg (m4 h4).1, if_neg (m4 h4).2]; rfl
theorem lp_b {y : Int} (h : 1 ≤ y) (h4 : y % 4 = 0) (h1 : ¬ y % 100 = 0) : lp y = 1 := by rw [lp_if h, if_pos h4, if_neg h1, if_neg (m100 h1)]; rfl
theorem lp_c {y : Int} (h : 1 ≤ y) (h4 : y % 4 = 0) (h1 : y % 100 = 0) (h2 : ¬ y % 400 = 0) : lp y = 0 := by rw [lp_if h, if_pos h4, if_pos h1, if_neg h2]; rfl
theorem lp_d {y : Int} (h : 1 ≤ y) (h4 : y % 4 = 0) (h1 : y % 100 = 0) (h2 : y % 400 = 0) : lp y = 1 := by rw [lp_if h, if_pos h4, if_pos h1, if_pos h2]; rfl
end Go.Proofs.YtomoinohfoalnaaDoor.txm
