/- The runes of joined texts; joined texts, prepared. No run in this text. -/
import Derived.Test.YtomoinohfoalnaaDoorTxAA
import Derived.Lib.DecodeN
import Derived.Lib.QuoteLoop
import Derived.Lib.TrimUEq
namespace Go.Proofs.YtomoinohfoalnaaDoor.txm
open Go.Proofs.YtomoinohfoalnaaDoor.tlvc
set_option linter.unusedVariables false
set_option linter.unusedSimpArgs false
def decL (l : List UInt8) : Nat × Nat := Lib.decodeN l.length (l.getD 0 0).toNat (l.getD 1 0).toNat (l.getD 2 0).toNat (l.getD 3 0).toNat
def rL : Nat → List UInt8 → List Int
  | 0, _ => []
  | n + 1, l => if 0 < l.length then ((decL l).1 : Int) :: rL n (l.drop (decL l).2) else []
theorem get_drop (s : ByteArray) (p k : Nat) : (s.data.toList.drop p).getD k 0 = s.get! (p + k) := by
  rw [List.getD_eq_getElem?_getD, List.getElem?_drop]
  show _ = s.data[p + k]!
  rw [getElem!_def, Array.getElem?_toList]
  cases s.data[p + k]? <;> rfl
theorem dec_drop (s : ByteArray) (p : Nat) : Utf8.decode s p = decL (s.data.toList.drop p) := by
  rw [Lib.decode_at]
  unfold decL
  rw [get_drop, get_drop, get_drop, get_drop, List.length_drop]
  rfl
theorem runesF_rL (s : ByteArray) : ∀ n p, runesF s n p = rL n (s.data.toList.drop p)
  | 0, _ => rfl
  | n + 1, p => by
    unfold runesF rL
    have e : p < s.size ↔ 0 < (s.data.toList.drop p).length := by rw [List.length_drop]; show p < s.data.size ↔ 0 < s.data.toList.length - p; rw [Array.length_toList]; omega
    by_cases h : p < s.size
    · rw [if_pos h, if_pos (e.1 h), runesF_rL s n, dec_drop, List.drop_drop]
    · rw [if_neg h, if_neg (fun x => h (e.2 x))]
theorem decN_more (n n' b0 b1 b2 b3 c1 c2 c3 : Nat) (h0 : 1 ≤ n) (hn : n ≤ n') (h1 : 1 < n → c1 = b1) (h2 : 2 < n → c2 = b2) (h3 : 3 < n → c3 = b3) (k1 : n = 1 → c1 / 64 ≠ 2) (k2 : n = 2 → c2 / 64 ≠ 2) (k3 : n = 3 → c3 / 64 ≠ 2) :
    Lib.decodeN n' b0 c1 c2 c3 = Lib.decodeN n b0 b1 b2 b3 := by
  rcases Nat.lt_or_ge 3 n with h | h
  · rw [h1 (by omega), h2 (by omega), h3 h]
    unfold Lib.decodeN
    simp only [show 1 < n by omega, show 2 < n by omega, h, show 1 < n' by omega, show 2 < n' by omega, show 3 < n' by omega]
  · obtain rfl | rfl | rfl : n = 1 ∨ n = 2 ∨ n = 3 := by omega
    · have := k1 rfl
      unfold Lib.decodeN
      simp [this]
    · have := k2 rfl
      rw [h1 (by omega)]
      unfold Lib.decodeN
      simp [this, show 1 < n' by omega]
    · have := k3 rfl
      rw [h1 (by omega), h2 (by omega)]
      unfold Lib.decodeN
      simp [this, show 1 < n' by omega, show 2 < n' by omega]
/-- The next text does not begin in the middle of a rune. -/
def Starts (m : List UInt8) : Prop := (m.getD 0 0).toNat / 64 ≠ 2
theorem getD_app_l {l m : List UInt8} {k : Nat} (h : k < l.length) : (l ++ m).getD k 0 = l.getD k 0 := by
  simp [List.getD_eq_getElem?_getD, List.getElem?_append_left h]
theorem getD_app_0 {l m : List UInt8} {k : Nat} (h : l.length = k) : (l ++ m).getD k 0 = m.getD 0 0 := by
  subst h; simp [List.getD_eq_getElem?_getD, List.getElem?_append_right]
theorem dec_app {l m : List UInt8} (hl : 0 < l.length) (hm : Starts m) : decL (l ++ m) = decL l := by
  unfold decL
  rw [getD_app_l hl]
  refine decN_more _ _ _ _ _ _ _ _ _ hl (by simp) ?_ ?_ ?_ ?_ ?_ ?_
  · intro h; rw [getD_app_l h]
  · intro h; rw [getD_app_l h]
  · intro h; rw [getD_app_l h]
  · intro h; rw [getD_app_0 h]; exact hm
  · intro h; rw [getD_app_0 h]; exact hm
  · intro h; rw [getD_app_0 h]; exact hm
theorem dec_w {l : List UInt8} (hl : 0 < l.length) : 1 ≤ (decL l).2 ∧ (decL l).2 ≤ l.length := ⟨Lib.decodeN_ge1 _ _ _ _ _, Lib.decodeN_width_le _ _ _ _ _ hl⟩
theorem rL_more : ∀ (n k : Nat) (l : List UInt8), l.length ≤ n → rL (n + k) l = rL n l
  | 0, k, l, h => by
    have : l = [] := List.eq_nil_of_length_eq_zero (by omega)
    subst this
    cases k <;> simp [rL]
  | n + 1, k, l, h => by
    rw [show n + 1 + k = (n + k) + 1 by omega]
    unfold rL
    by_cases hl : 0 < l.length
    · have := dec_w hl
      rw [if_pos hl, if_pos hl, rL_more n k _ (by rw [List.length_drop]; omega)]
    · rw [if_neg hl, if_neg hl]
theorem rL_app : ∀ (n : Nat) (l m : List UInt8), l.length ≤ n → Starts m → rL (n + m.length) (l ++ m) = rL n l ++ rL m.length m
  | 0, l, m, h, _ => by
    have : l = [] := List.eq_nil_of_length_eq_zero (by omega)
    subst this
    simp [rL]
  | n + 1, l, m, h, hm => by
    by_cases hl : 0 < l.length
    · have hw := dec_w hl
      rw [show n + 1 + m.length = (n + m.length) + 1 by omega]
      have e1 : rL (n + m.length + 1) (l ++ m) = ((decL (l ++ m)).1 : Int) :: rL (n + m.length) ((l ++ m).drop (decL (l ++ m)).2) := by
        rw [rL, if_pos (by rw [List.length_append]; omega)]
      have e2 : rL (n + 1) l = ((decL l).1 : Int) :: rL n (l.drop (decL l).2) := by rw [rL, if_pos hl]
      rw [e1, e2, dec_app hl hm, List.drop_append_of_le_length hw.2, rL_app n _ m (by rw [List.length_drop]; omega) hm]
      rfl
    · have : l = [] := List.eq_nil_of_length_eq_zero (by omega)
      subst this
      have := rL_more m.length (n + 1) m (Nat.le_refl _)
      rw [Nat.add_comm] at this
      rw [List.nil_append, this]
      simp [rL]
theorem runes_app (a b : ByteArray) (h : Starts b.data.toList) : runes (a ++ b) = runes a ++ runes b := by
  unfold runes
  rw [runesF_rL, runesF_rL, runesF_rL, ByteArray.size_append, ByteArray.data_append, Array.toList_append, List.drop_zero, List.drop_zero, List.drop_zero]
  have e1 : b.size = b.data.toList.length := by rw [Array.length_toList]; rfl
  rw [e1]
  exact rL_app a.size _ _ (by rw [Array.length_toList]; exact Nat.le_refl _) h

/-! ### prepared -/
def J3 (o : List Int) (s1 s2 : List Int × Bool) : Prop := (s2.1 = [] ∧ s2.2 = false ∧ s1.1 = o ∧ s1.2 = true) ∨ (s2.1 ≠ [] ∧ s1.1 = o ++ [32] ++ s2.1 ∧ s1.2 = s2.2)
theorem j3_step {o : List Int} (ho : o ≠ []) {s1 s2 : List Int × Bool} (r : Int) (h : J3 o s1 s2) : J3 o (stepP s1 r) (stepP s2 r) := by
  obtain ⟨o1, p1⟩ := s1
  obtain ⟨o2, p2⟩ := s2
  rcases kindw r with hk | hk | hk | hk
  · simpa [stepP, hk] using h
  · rcases h with ⟨a, b, c, d⟩ | ⟨a, b, c⟩
    · simp only at a b c d; subst a b c d
      exact .inl ⟨by simp [stepP, hk], by simp [stepP, hk], by simp [stepP, hk], by simp [stepP, hk, ho]⟩
    · simp only at a b c; subst b c
      exact .inr ⟨by simpa [stepP, hk] using a, by simp [stepP, hk], by simp [stepP, hk, a]⟩
  · rcases h with ⟨a, b, c, d⟩ | ⟨a, b, c⟩
    · simp only at a b c d; subst a b c d
      exact .inr ⟨by simp [stepP, hk], by simp [stepP, hk], by simp [stepP, hk]⟩
    · simp only at a b c; subst b c
      exact .inr ⟨by simp [stepP, hk], by simp [stepP, hk], by simp [stepP, hk]⟩
  · rcases h with ⟨a, b, c, d⟩ | ⟨a, b, c⟩
    · simp only at a b c d; subst a b c d
      exact .inr ⟨by simp [stepP, hk], by simp [stepP, hk], by simp [stepP, hk]⟩
    · simp only at a b c; subst b c
      exact .inr ⟨by simp [stepP, hk], by simp [stepP, hk], by simp [stepP, hk]⟩
theorem j3_all {o : List Int} (ho : o ≠ []) : ∀ (y : List Int) (s1 s2 : List Int × Bool), J3 o s1 s2 → J3 o (y.foldl stepP s1) (y.foldl stepP s2)
  | [], _, _, h => h
  | r :: y, s1, s2, h => j3_all ho y _ _ (j3_step ho r h)
theorem prepR_join (x y : List Int) : prepR (x ++ ([32] ++ y)) = if prepR x = [] then prepR y else if prepR y = [] then prepR x else prepR x ++ [32] ++ prepR y := by
  unfold prepR
  rw [List.foldl_append, List.foldl_append]
  obtain ⟨⟨ox, px⟩, hx⟩ : ∃ st, x.foldl stepP ([], false) = st := ⟨_, rfl⟩
  rw [hx]
  have e : [32].foldl stepP (ox, px) = (ox, decide (ox ≠ [])) := by
    have : kindF 32 = 2 := by decide
    simp [stepP, this]
  rw [e]
  by_cases h : ox = []
  · subst h; simp
  · have hd : decide (ox ≠ []) = true := decide_eq_true h
    rw [hd, if_neg h]
    have := j3_all h y (ox, true) ([], false) (.inl ⟨rfl, rfl, rfl, rfl⟩)
    rcases this with ⟨a, b, c, d⟩ | ⟨a, b, c⟩
    · rw [if_pos a, c]
    · rw [if_neg a, b]
theorem prepF_join (a b : ByteArray) : prepF (a ++ (⟨#[32]⟩ ++ b)) = if prepF a = [] then prepF b else if prepF b = [] then prepF a else prepF a ++ [32] ++ prepF b := by
  have r32 : runes (⟨#[32]⟩ ++ b) = [32] ++ runes b := by
    have hs : (⟨#[32]⟩ ++ b : ByteArray).data.toList = 32 :: b.data.toList := by rw [ByteArray.data_append]; simp
    have hz : (⟨#[32]⟩ ++ b : ByteArray).size = b.size + 1 := by rw [ByteArray.size_append]; show 1 + b.size = _; omega
    unfold runes
    rw [runesF_rL, hz, hs, List.drop_zero, rL, if_pos (by simp)]
    have hd : decL (32 :: b.data.toList) = (32, 1) := by unfold decL; exact Lib.decodeN_ascii _ _ _ _ _ (by simp)
    rw [hd, runesF_rL]
    simp
  have key : runes (a ++ (⟨#[32]⟩ ++ b)) = runes a ++ ([32] ++ runes b) := by
    rw [runes_app, r32]
    unfold Starts
    rw [ByteArray.data_append]
    simp
  have en : ∀ l, enc l = [] ↔ l = [] := fun l => by rw [← enc_nil]; exact List.length_eq_zero_iff.symm
  unfold prepF
  rw [key, prepR_join]
  simp only [en]
  split
  · rfl
  · split
    · rfl
    · rw [enc_app, enc_app, enc_one, encode32]
end Go.Proofs.YtomoinohfoalnaaDoor.txm
