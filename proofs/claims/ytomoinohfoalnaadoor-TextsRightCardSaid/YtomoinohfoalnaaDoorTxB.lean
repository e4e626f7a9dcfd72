/- Plain facts on clocks and the bodies of times: what is written is read as it was, and in order. No run in this text. -/
import Derived.Test.YtomoinohfoalnaaDoorTxA
namespace Go.Proofs.YtomoinohfoalnaaDoor.txm

/-- Two digits. -/
def wr2 (n : Int) : List Int := [48 + n / 10, 48 + n % 10]
/-- A time's day, from the beginning of 1950 on; and of its year. -/
def dayOf (sec : Int) : Int := (sec + 631152000) / 86400
def yOf (sec : Int) : Int := yearOf (dayOf sec)
def rOf (sec : Int) : Int := dayOf sec - dto (yOf sec)
def mOf (sec : Int) : Nat := monOf (lp (yOf sec)) (rOf sec)
def clk (sec : Int) : List Int :=
  [yOf sec / 100, yOf sec % 100, (mOf sec : Int) + 1, rOf sec - cum (lp (yOf sec)) (mOf sec) + 1, (sec + 631152000) / 60 / 60 % 24, (sec + 631152000) / 60 % 60, (sec + 631152000) % 60]
def tagOf (sec : Int) : Int := if 2524608000 ≤ sec then 24 else 23
def wrs (tag : Int) (c : List Int) : List Int := (if tag = 23 then c.drop 1 else c).flatMap wr2 ++ [90]
def bodyOf (sec : Int) : List Int := wrs (tagOf sec) (clk sec)
def InR (sec : Int) : Prop := -631152000 ≤ sec ∧ sec ≤ 253402300799
def Flds (c : List Int) : Prop := ∀ x ∈ c, 0 ≤ x ∧ x ≤ 99

theorem dayOf_bd {s : Int} (h : InR s) : 0 ≤ dayOf s ∧ dayOf s < 2940202 := by unfold InR at h; unfold dayOf; omega
theorem y_spec {s : Int} (h : InR s) : dto (yOf s) ≤ dayOf s ∧ dayOf s < dto (yOf s + 1) ∧ 1950 ≤ yOf s ∧ yOf s ≤ 9999 :=
  yearOf_spec (dayOf_bd h).1 (dayOf_bd h).2
theorem lp_y {s : Int} (h : InR s) : 0 ≤ lp (yOf s) ∧ lp (yOf s) ≤ 1 := lp_01 (by have := y_spec h; omega)
theorem r_bd {s : Int} (h : InR s) : 0 ≤ rOf s ∧ rOf s < 365 + lp (yOf s) := by
  obtain ⟨a, b, _⟩ := y_spec h
  rw [dto_step] at b
  unfold rOf; omega
theorem m_spec {s : Int} (h : InR s) : cum (lp (yOf s)) (mOf s) ≤ rOf s ∧ rOf s < cum (lp (yOf s)) (mOf s + 1) ∧ mOf s < 12 :=
  monOf_spec (r_bd h).1 (r_bd h).2
theorem d_bd {s : Int} (h : InR s) : 0 ≤ rOf s - cum (lp (yOf s)) (mOf s) ∧ rOf s - cum (lp (yOf s)) (mOf s) < mon (lp (yOf s)) (mOf s) ∧ rOf s - cum (lp (yOf s)) (mOf s) ≤ 30 := by
  obtain ⟨a, b, c⟩ := m_spec h
  rw [cum_step _ c] at b
  have := mon_bd (lp_y h).1 (lp_y h).2 (mOf s)
  omega
theorem clk_flds {s : Int} (h : InR s) : Flds (clk s) := by
  have hy := y_spec h
  have hm := (m_spec h).2.2
  have hd := d_bd h
  intro x hx
  simp only [clk, List.mem_cons, List.not_mem_nil, or_false] at hx
  rcases hx with rfl | rfl | rfl | rfl | rfl | rfl | rfl <;> omega
theorem tag_year {s : Int} (h : InR s) : (2524608000 ≤ s) ↔ 2050 ≤ yOf s := by
  obtain ⟨a, b, c, d⟩ := y_spec h
  unfold dayOf at a b
  constructor
  · intro hs
    by_cases e : 2050 ≤ yOf s
    · exact e
    · have := dto_mono (a := yOf s + 1) (b := 2050) (by omega) (by omega)
      rw [dto_2050] at this
      omega
  · intro hs
    have := dto_mono (a := 2050) (b := yOf s) (by omega) hs
    rw [dto_2050] at this
    omega

/-! ### read back -/
def dgt (x : Int) : Int := (x - 48) % 256
def pr (xs : List Int) (j : Nat) : Int := if 2 * j + 2 ≤ xs.length then 10 * dgt (xs.getD (2 * j) 0) + dgt (xs.getD (2 * j + 1) 0) else 0
def cent (n : Int) : Int := if 50 ≤ n then 19 else 20
def fldsOf (tag : Int) (xs : List Int) : List Int :=
  if tag = 23 then [cent (pr xs 0), pr xs 0, pr xs 1, pr xs 2, pr xs 3, pr xs 4, pr xs 5] else [pr xs 0, pr xs 1, pr xs 2, pr xs 3, pr xs 4, pr xs 5, pr xs 6]
/-- The month's place among the twelve, by its field. -/
def mIx (m : Int) : Nat := min (m - 1).toNat 12
def daysAt (y m d : Int) : Int := dto y + d - 1 + cum (lp y) (mIx m)
def secAt (y m d h n s : Int) : Int := -631152000 + ((daysAt y m d * 24 + h) * 60 + n) * 60 + s
def secOf (c : List Int) : Int := secAt (100 * c.getD 0 0 + c.getD 1 0) (c.getD 2 0) (c.getD 3 0) (c.getD 4 0) (c.getD 5 0) (c.getD 6 0)

theorem dgt_lo {n : Int} (h : 0 ≤ n) (h2 : n ≤ 99) : dgt (48 + n / 10) = n / 10 ∧ dgt (48 + n % 10) = n % 10 := by unfold dgt; omega
theorem ten {n : Int} : 10 * (n / 10) + n % 10 = n := by omega
theorem pr_wr {a : Int} (h : 0 ≤ a) (h2 : a ≤ 99) : 10 * dgt (48 + a / 10) + dgt (48 + a % 10) = a := by rw [(dgt_lo h h2).1, (dgt_lo h h2).2]; exact ten
theorem flds_wrs23 {c0 c1 c2 c3 c4 c5 c6 : Int} (h : Flds [c0, c1, c2, c3, c4, c5, c6]) (hc : cent c1 = c0) : fldsOf 23 (wrs 23 [c0, c1, c2, c3, c4, c5, c6]) = [c0, c1, c2, c3, c4, c5, c6] := by
  have k1 := h c1 (by simp); have k2 := h c2 (by simp); have k3 := h c3 (by simp); have k4 := h c4 (by simp); have k5 := h c5 (by simp); have k6 := h c6 (by simp)
  have e1 := pr_wr k1.1 k1.2; have e2 := pr_wr k2.1 k2.2; have e3 := pr_wr k3.1 k3.2; have e4 := pr_wr k4.1 k4.2; have e5 := pr_wr k5.1 k5.2; have e6 := pr_wr k6.1 k6.2
  have p0 : pr (wrs 23 [c0, c1, c2, c3, c4, c5, c6]) 0 = c1 := by simpa [pr, wrs, wr2] using e1
  have p1 : pr (wrs 23 [c0, c1, c2, c3, c4, c5, c6]) 1 = c2 := by simpa [pr, wrs, wr2] using e2
  have p2 : pr (wrs 23 [c0, c1, c2, c3, c4, c5, c6]) 2 = c3 := by simpa [pr, wrs, wr2] using e3
  have p3 : pr (wrs 23 [c0, c1, c2, c3, c4, c5, c6]) 3 = c4 := by simpa [pr, wrs, wr2] using e4
  have p4 : pr (wrs 23 [c0, c1, c2, c3, c4, c5, c6]) 4 = c5 := by simpa [pr, wrs, wr2] using e5
  have p5 : pr (wrs 23 [c0, c1, c2, c3, c4, c5, c6]) 5 = c6 := by simpa [pr, wrs, wr2] using e6
  unfold fldsOf
  rw [if_pos rfl, p0, p1, p2, p3, p4, p5, hc]
theorem flds_wrs24 {c0 c1 c2 c3 c4 c5 c6 : Int} (h : Flds [c0, c1, c2, c3, c4, c5, c6]) : fldsOf 24 (wrs 24 [c0, c1, c2, c3, c4, c5, c6]) = [c0, c1, c2, c3, c4, c5, c6] := by
  have k0 := h c0 (by simp)
  have k1 := h c1 (by simp); have k2 := h c2 (by simp); have k3 := h c3 (by simp); have k4 := h c4 (by simp); have k5 := h c5 (by simp); have k6 := h c6 (by simp)
  have e0 := pr_wr k0.1 k0.2
  have e1 := pr_wr k1.1 k1.2; have e2 := pr_wr k2.1 k2.2; have e3 := pr_wr k3.1 k3.2; have e4 := pr_wr k4.1 k4.2; have e5 := pr_wr k5.1 k5.2; have e6 := pr_wr k6.1 k6.2
  have p0 : pr (wrs 24 [c0, c1, c2, c3, c4, c5, c6]) 0 = c0 := by simpa [pr, wrs, wr2] using e0
  have p1 : pr (wrs 24 [c0, c1, c2, c3, c4, c5, c6]) 1 = c1 := by simpa [pr, wrs, wr2] using e1
  have p2 : pr (wrs 24 [c0, c1, c2, c3, c4, c5, c6]) 2 = c2 := by simpa [pr, wrs, wr2] using e2
  have p3 : pr (wrs 24 [c0, c1, c2, c3, c4, c5, c6]) 3 = c3 := by simpa [pr, wrs, wr2] using e3
  have p4 : pr (wrs 24 [c0, c1, c2, c3, c4, c5, c6]) 4 = c4 := by simpa [pr, wrs, wr2] using e4
  have p5 : pr (wrs 24 [c0, c1, c2, c3, c4, c5, c6]) 5 = c5 := by simpa [pr, wrs, wr2] using e5
  have p6 : pr (wrs 24 [c0, c1, c2, c3, c4, c5, c6]) 6 = c6 := by simpa [pr, wrs, wr2] using e6
  unfold fldsOf
  rw [if_neg (by decide), p0, p1, p2, p3, p4, p5, p6]
theorem flds_back {s : Int} (h : InR s) : fldsOf (tagOf s) (bodyOf s) = clk s := by
  have hf := clk_flds h
  have hy := y_spec h
  have ht := tag_year h
  unfold bodyOf tagOf
  by_cases hs : 2524608000 ≤ s
  · rw [if_pos hs]; exact flds_wrs24 hf
  · rw [if_neg hs]
    refine flds_wrs23 hf ?_
    have : ¬ 2050 ≤ yOf s := fun h => hs (ht.2 h)
    unfold cent
    split <;> omega
theorem secAt_clk {s : Int} (h : InR s) : secAt (yOf s) ((mOf s : Int) + 1) (rOf s - cum (lp (yOf s)) (mOf s) + 1) ((s + 631152000) / 60 / 60 % 24) ((s + 631152000) / 60 % 60) ((s + 631152000) % 60) = s := by
  have hm := (m_spec h).2.2
  have e : mIx ((mOf s : Int) + 1) = mOf s := by unfold mIx; omega
  unfold secAt daysAt
  rw [e]
  unfold rOf
  have : dto (yOf s) + (dayOf s - dto (yOf s) - cum (lp (yOf s)) (mOf s) + 1) - 1 + cum (lp (yOf s)) (mOf s) = dayOf s := by omega
  rw [this]
  unfold dayOf; omega
theorem secOf_clk {s : Int} (h : InR s) : secOf (clk s) = s := by
  have e : 100 * (yOf s / 100) + yOf s % 100 = yOf s := by omega
  have := secAt_clk h
  simpa [secOf, clk, e] using this
theorem sec_back {s : Int} (h : InR s) : secOf (fldsOf (tagOf s) (bodyOf s)) = s := by rw [flds_back h, secOf_clk h]

/-- A body's time: whether it is one, and which. -/
def timeS (tag : Int) (xs : List Int) : Int := secOf (fldsOf tag xs)
def OkT (tag : Int) (xs : List Int) : Prop := InR (timeS tag xs) ∧ tagOf (timeS tag xs) = tag ∧ bodyOf (timeS tag xs) = xs
theorem okT_back {s : Int} (h : InR s) : OkT (tagOf s) (bodyOf s) ∧ timeS (tagOf s) (bodyOf s) = s := by
  have := sec_back h
  unfold OkT timeS
  rw [this]
  exact ⟨⟨h, rfl, rfl⟩, rfl⟩

theorem bodyOf_len {s : Int} : (bodyOf s).length = if 2524608000 ≤ s then 15 else 13 := by
  unfold bodyOf tagOf
  split <;> simp [wrs, clk, wr2]
theorem wr2_bd {n : Int} (h : 0 ≤ n) (h2 : n ≤ 99) : ∀ x ∈ wr2 n, 48 ≤ x ∧ x ≤ 57 := by
  intro x hx
  simp only [wr2, List.mem_cons, List.not_mem_nil, or_false] at hx
  rcases hx with rfl | rfl <;> omega
theorem wrs_fit {tag : Int} {c : List Int} (h : Flds c) : ∀ x ∈ wrs tag c, 48 ≤ x ∧ x ≤ 90 := by
  intro x hx
  simp only [wrs, List.mem_append, List.mem_flatMap, List.mem_singleton] at hx
  rcases hx with ⟨n, hn, hx⟩ | rfl
  · have hn' : n ∈ c := by
      split at hn
      · exact List.mem_of_mem_drop hn
      · exact hn
    have := wr2_bd (h n hn').1 (h n hn').2 x hx
    omega
  · omega
/-- All but the last sign of a body are digits; the last one is a Z. -/
theorem body_dig {s : Int} (h : InR s) : ∀ j, j + 1 < (bodyOf s).length → 48 ≤ (bodyOf s).getD j 0 ∧ (bodyOf s).getD j 0 ≤ 57 := by
  intro j hj
  unfold bodyOf wrs at hj ⊢
  rw [List.length_append, List.length_singleton] at hj
  have hj' : j < (List.flatMap wr2 (if tagOf s = 23 then (clk s).drop 1 else clk s)).length := by omega
  rw [List.getD_eq_getElem?_getD, List.getElem?_append_left hj', List.getElem?_eq_getElem hj', Option.getD_some]
  have hm := List.getElem_mem hj'
  simp only [List.mem_flatMap] at hm
  obtain ⟨n, hn, hx⟩ := hm
  have hn' : n ∈ clk s := by
    split at hn
    · exact List.mem_of_mem_drop hn
    · exact hn
  exact wr2_bd (clk_flds h n hn').1 (clk_flds h n hn').2 _ hx
theorem body_last {s : Int} : (bodyOf s).getD ((bodyOf s).length - 1) 0 = 90 := by
  unfold bodyOf wrs
  rw [List.length_append, List.length_singleton, Nat.add_sub_cancel, List.getD_eq_getElem?_getD, List.getElem?_append_right (Nat.le_refl _)]
  simp
end Go.Proofs.YtomoinohfoalnaaDoor.txm
