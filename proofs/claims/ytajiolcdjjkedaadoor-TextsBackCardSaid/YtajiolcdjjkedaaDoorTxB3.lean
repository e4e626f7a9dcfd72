/- The order of times' bodies: plain facts. -/
import Derived.Test.YtajiolcdjjkedaaDoorTxB2
import Derived.Test.YtajiolcdjjkedaaDoorTxK
namespace Go.Proofs.YtajiolcdjjkedaaDoor.txm
open Go.Proofs.YtajiolcdjjkedaaDoor.tlvc
set_option linter.unusedVariables false
set_option linter.unusedSimpArgs false
def lessZ : List Int → List Int → Bool
  | _, [] => false
  | [], _ :: _ => true
  | a :: x, b :: y => decide (a < b) || (decide (a = b) && lessZ x y)
theorem less_lt {a b : Int} (h : a < b) (x y : List Int) : lessZ (a :: x) (b :: y) = true := by simp [lessZ, h]
theorem less_eq (a : Int) (x y : List Int) : lessZ (a :: x) (a :: y) = lessZ x y := by simp [lessZ]
theorem less_gt {a b : Int} (h : b < a) (x y : List Int) : lessZ (a :: x) (b :: y) = false := by
  have h1 : ¬ a < b := by omega
  have h2 : ¬ a = b := by omega
  simp [lessZ, h1, h2]
theorem less_irr : ∀ x : List Int, lessZ x x = false
  | [] => rfl
  | a :: x => by rw [less_eq]; exact less_irr x
theorem less_asym : ∀ x y : List Int, lessZ x y = true → lessZ y x = false
  | _, [], h => by simp [lessZ] at h
  | [], _ :: _, _ => rfl
  | a :: x, b :: y, h => by
    rcases Int.lt_trichotomy a b with hl | rfl | hg
    · exact less_gt hl y x
    · rw [less_eq] at h ⊢; exact less_asym x y h
    · rw [less_gt hg] at h; cases h
theorem less_wr2 {p q : Int} (hp : 0 ≤ p ∧ p ≤ 99) (hq : 0 ≤ q ∧ q ≤ 99) (x y : List Int) : lessZ (wr2 p ++ x) (wr2 q ++ y) = lessZ (p :: x) (q :: y) := by
  unfold wr2
  simp only [List.cons_append, List.nil_append]
  rcases Int.lt_trichotomy p q with hl | rfl | hg
  · rw [less_lt hl]
    rcases Int.lt_trichotomy (48 + p / 10) (48 + q / 10) with h | h | h
    · exact less_lt h _ _
    · rw [h, less_eq]; exact less_lt (by omega) _ _
    · omega
  · simp only [less_eq]
  · rw [less_gt hg]
    rcases Int.lt_trichotomy (48 + p / 10) (48 + q / 10) with h | h | h
    · omega
    · rw [h, less_eq]; exact less_gt (by omega) _ _
    · exact less_gt h _ _
theorem less_flds : ∀ {c d : List Int}, Flds c → Flds d → c.length = d.length → ∀ t : List Int, lessZ (c.flatMap wr2 ++ t) (d.flatMap wr2 ++ t) = lessZ c d
  | [], [], _, _, _, t => by simp only [List.flatMap_nil, List.nil_append]; rw [less_irr]; rfl
  | [], _ :: _, _, _, h, _ => by simp at h
  | _ :: _, [], _, _, h, _ => by simp at h
  | a :: x, b :: y, hc, hd, h, t => by
    have ha := hc a (by simp)
    have hb := hd b (by simp)
    have ih := less_flds (c := x) (d := y) (fun z hz => hc z (by simp [hz])) (fun z hz => hd z (by simp [hz])) (by simpa using h) t
    simp only [List.flatMap_cons, List.append_assoc]
    rw [less_wr2 ha hb]
    rcases Int.lt_trichotomy a b with hl | rfl | hg
    · rw [less_lt hl, less_lt hl]
    · rw [less_eq, less_eq]; exact ih
    · rw [less_gt hg, less_gt hg]
theorem less_clk {a b : Int} (ha : InR a) (hb : InR b) (h : a < b) : lessZ (clk a) (clk b) = true := by
  obtain ⟨a1, a2, a3, a4⟩ := y_spec ha
  obtain ⟨b1, b2, b3, b4⟩ := y_spec hb
  have hd : dayOf a ≤ dayOf b := by unfold dayOf; omega
  have hy : yOf a ≤ yOf b := by
    rcases Int.lt_or_le (yOf b) (yOf a) with hl | hl
    · have := dto_mono (a := yOf b + 1) (b := yOf a) (by omega) (by omega); omega
    · exact hl
  unfold clk
  by_cases hye : yOf a = yOf b
  · have hr : rOf a ≤ rOf b := by unfold rOf; rw [hye]; omega
    obtain ⟨c1, c2, c3⟩ := m_spec ha
    obtain ⟨d1, d2, d3⟩ := m_spec hb
    have hl := lp_y hb
    rw [hye] at c1 c2 ⊢
    have hm : mOf a ≤ mOf b := by
      rcases Nat.lt_or_ge (mOf b) (mOf a) with hlt | hge
      · have := cum_mono hl.1 hl.2 (mOf a) (mOf b + 1) (by omega) (by omega); omega
      · exact hge
    rw [less_eq, less_eq]
    by_cases hme : mOf a = mOf b
    · rw [hme, less_eq]
      by_cases hde : rOf a = rOf b
      · rw [hde, less_eq]
        have e : dayOf a = dayOf b := by
          have h1 : rOf a = dayOf a - dto (yOf a) := rfl
          have h2 : rOf b = dayOf b - dto (yOf b) := rfl
          rw [hye] at h1; omega
        unfold dayOf at e
        rcases Int.lt_trichotomy ((a + 631152000) / 60 / 60 % 24) ((b + 631152000) / 60 / 60 % 24) with g | g | g
        · exact less_lt g _ _
        · rw [g, less_eq]
          rcases Int.lt_trichotomy ((a + 631152000) / 60 % 60) ((b + 631152000) / 60 % 60) with k | k | k
          · exact less_lt k _ _
          · rw [k, less_eq]; exact less_lt (by omega) _ _
          · omega
        · omega
      · exact less_lt (by omega) _ _
    · exact less_lt (by omega) _ _
  · by_cases hc : yOf a / 100 = yOf b / 100
    · rw [hc, less_eq]; exact less_lt (by omega) _ _
    · exact less_lt (by omega) _ _
theorem less_body {a b : Int} (ha : InR a) (hb : InR b) (ta : tagOf a = 24) (tb : tagOf b = 24) : lessZ (bodyOf a) (bodyOf b) = decide (a < b) := by
  unfold bodyOf wrs
  rw [ta, tb]
  simp only [show ¬ (24 : Int) = 23 by decide, if_false]
  rw [less_flds (clk_flds ha) (clk_flds hb) rfl]
  rcases Int.lt_trichotomy a b with h | rfl | h
  · rw [less_clk ha hb h]; simp [h]
  · rw [less_irr]; simp
  · rw [less_asym _ _ (less_clk hb ha h)]; have : ¬ a < b := by omega
    simp [this]
theorem less_bytes : ∀ {xs ys : List Int}, Fit xs → Fit ys → Op.bytesLess (Lib.bytesOf xs) (Lib.bytesOf ys) = lessZ xs ys
  | [], [], _, _ => rfl
  | _ :: _, [], _, _ => rfl
  | [], _ :: _, _, _ => rfl
  | a :: x, b :: y, hx, hy => by
    have ih := less_bytes (xs := x) (ys := y) (fun z hz => hx z (by simp [hz])) (fun z hz => hy z (by simp [hz]))
    have ha := hx a (by simp)
    have hb := hy b (by simp)
    simp only [Lib.bytesOf, List.map_cons] at ih ⊢
    unfold Op.bytesLess lessZ
    rw [ih]
    have e1 : decide (UInt8.ofNat a.toNat < UInt8.ofNat b.toNat) = decide (a < b) := by
      congr 1
      simp only [UInt8.lt_iff_toNat_lt, UInt8.toNat_ofNat', eq_iff_iff]
      omega
    have e2 : (UInt8.ofNat a.toNat == UInt8.ofNat b.toNat) = decide (a = b) := by
      rw [Bool.eq_iff_iff]
      simp only [beq_iff_eq, decide_eq_true_eq]
      constructor
      · intro h
        have := congrArg UInt8.toNat h
        simp only [UInt8.toNat_ofNat'] at this
        omega
      · intro h; rw [h]
    rw [e1, e2]
end Go.Proofs.YtajiolcdjjkedaaDoor.txm
