/- What Head answers, as one function of the bytes; its ways put together. -/
import Derived.Test.YtpfdebelpfcofaaTlvH
namespace Go.Proofs.Ytpfdebelpfcofaa.tlvc
open Go.RowKit
set_option linter.unusedVariables false

/-- What stands at the beginning of some bytes: an error (0: none), the tag, how many bytes tag and length have, how many the body has. -/
def headF : List Int → Int × Int × Int × Int
  | [] => (12, 0, 0, 0)
  | [t] => if endlessB t = true then (11, 0, 0, 0) else (12, 0, 0, 0)
  | t :: f :: r =>
    if endlessB t = true then (11, 0, 0, 0)
    else if f = 128 ∨ 130 < f then (13, 0, 0, 0)
    else if f < 128 then (if (r.length : Int) < f then (12, 0, 0, 0) else (0, t, 2, f))
    else if f = 129 then
      match r with
      | [] => (12, 0, 0, 0)
      | x :: r2 => if x < 128 then (13, 0, 0, 0) else if (r2.length : Int) < x then (12, 0, 0, 0) else (0, t, 3, x)
    else
      match r with
      | x :: y :: r2 => if x * 256 + y < 256 then (13, 0, 0, 0) else if (r2.length : Int) < x * 256 + y then (12, 0, 0, 0) else (0, t, 4, x * 256 + y)
      | _ => (12, 0, 0, 0)

theorem headF_one (t : Int) : headF [t] = if endlessB t = true then (11, 0, 0, 0) else (12, 0, 0, 0) := rfl
theorem headF_tag (t f : Int) (r : List Int) (h : endlessB t = true) : headF (t :: f :: r) = (11, 0, 0, 0) := by simp [headF, h]
theorem headF_len (t f : Int) (r : List Int) (h : ¬ endlessB t = true) (hf : f = 128 ∨ 130 < f) : headF (t :: f :: r) = (13, 0, 0, 0) := by simp [headF, h, hf]
theorem headF_s (t f : Int) (r : List Int) (h : ¬ endlessB t = true) (hf : f < 128) : headF (t :: f :: r) = if (r.length : Int) < f then (12, 0, 0, 0) else (0, t, 2, f) := by
  simp [headF, h, hf, show ¬ (f = 128 ∨ 130 < f) by omega]
theorem headF_m0 (t : Int) (h : ¬ endlessB t = true) : headF [t, 129] = (12, 0, 0, 0) := by simp [headF, h]
theorem headF_m (t x : Int) (r : List Int) (h : ¬ endlessB t = true) : headF (t :: 129 :: x :: r) = if x < 128 then (13, 0, 0, 0) else if (r.length : Int) < x then (12, 0, 0, 0) else (0, t, 3, x) := by simp [headF, h]
theorem headF_l0 (t : Int) (h : ¬ endlessB t = true) : headF [t, 130] = (12, 0, 0, 0) := by simp [headF, h]
theorem headF_l1 (t x : Int) (h : ¬ endlessB t = true) : headF [t, 130, x] = (12, 0, 0, 0) := by simp [headF, h]
theorem headF_l (t x y : Int) (r : List Int) (h : ¬ endlessB t = true) : headF (t :: 130 :: x :: y :: r) = if x * 256 + y < 256 then (13, 0, 0, 0) else if (r.length : Int) < x * 256 + y then (12, 0, 0, 0) else (0, t, 4, x * 256 + y) := by simp [headF, h]

/-- The same, as the call answers it at the place at. -/
def headR (a : Int) (r : Int × Int × Int × Int) : Ending := if r.1 = 0 then Yes r.2.1 (a + r.2.2.1) (a + r.2.2.1 + r.2.2.2) else No r.1
def headE (a : Int) (xs : List Int) : Ending := if a < 0 ∨ (xs.length : Int) < a then No 1 else headR a (headF (xs.drop a.toNat))

/-- The ways of a function that answers as Head does. -/
structure Ways (F : FuncId) (R : World → World → Prop) : Prop where
  arg : ∀ (A : Option Addr) (n c : Nat) (a : Int) (w : World), (a < 0 ∨ (n : Int) < a) → Calls Try.prog F #[.slice A n c, .int .i64 a] w fun e w' => e = No 1 ∧ R w w'
  endd : ∀ (A : Option Addr) (n c : Nat) (w : World), n ≤ c → n ≤ maxLen → Calls Try.prog F #[.slice A n c, .int .i64 n] w fun e w' => e = No 12 ∧ R w w'
  tag : ∀ (b off k m c : Nat) (t : Int) (w : World), 1 ≤ m → k + m ≤ c → k + m ≤ 9223372036854775807 → endlessB t = true → (0 ≤ t ∧ t ≤ 255) → w.cell? ⟨b, off + k, none⟩ = some (.int .u8 t) →
    Calls Try.prog F #[.slice (some ⟨b, off, none⟩) (k + m) c, .int .i64 k] w fun e w' => e = No 11 ∧ R w w'
  one : ∀ (b off k c : Nat) (t : Int) (w : World), k + 1 ≤ c → k + 1 ≤ 9223372036854775807 → endlessB t = false → (0 ≤ t ∧ t ≤ 255) → w.cell? ⟨b, off + k, none⟩ = some (.int .u8 t) →
    Calls Try.prog F #[.slice (some ⟨b, off, none⟩) (k + 1) c, .int .i64 k] w fun e w' => e = No 12 ∧ R w w'
  len : ∀ (b off k m c : Nat) (t f : Int) (w : World), 2 ≤ m → k + m ≤ c → k + m ≤ 9223372036854775807 → endlessB t = false → (0 ≤ t ∧ t ≤ 255) → w.cell? ⟨b, off + k, none⟩ = some (.int .u8 t) → w.cell? ⟨b, off + k + 1, none⟩ = some (.int .u8 f) →
    0 ≤ f → f ≤ 255 → (f = 128 ∨ 130 < f) → Calls Try.prog F #[.slice (some ⟨b, off, none⟩) (k + m) c, .int .i64 k] w fun e w' => e = No 13 ∧ R w w'
  s_no : ∀ (b off k m c : Nat) (t f : Int) (w : World), k + m ≤ c → k + m ≤ 9223372036854775807 → endlessB t = false → (0 ≤ t ∧ t ≤ 255) → w.cell? ⟨b, off + k, none⟩ = some (.int .u8 t) → w.cell? ⟨b, off + k + 1, none⟩ = some (.int .u8 f) →
    0 ≤ f → f < 128 → 2 ≤ m → Bys w (some ⟨b, off + k + 1, none⟩) 1 [f] → (m : Int) - 2 < f → Calls Try.prog F #[.slice (some ⟨b, off, none⟩) (k + m) c, .int .i64 k] w fun e w' => e = No 12 ∧ R w w'
  s_ok : ∀ (b off k m c : Nat) (t f : Int) (w : World), k + m ≤ c → k + m ≤ 9223372036854775807 → endlessB t = false → (0 ≤ t ∧ t ≤ 255) → w.cell? ⟨b, off + k, none⟩ = some (.int .u8 t) → w.cell? ⟨b, off + k + 1, none⟩ = some (.int .u8 f) →
    0 ≤ f → f < 128 → 2 ≤ m → Bys w (some ⟨b, off + k + 1, none⟩) 1 [f] → f ≤ (m : Int) - 2 → Calls Try.prog F #[.slice (some ⟨b, off, none⟩) (k + m) c, .int .i64 k] w fun e w' => e = Yes t (k + 2) (k + 2 + f) ∧ R w w'
  m_cut : ∀ (b off k m c : Nat) (t  : Int) (w : World), k + m ≤ c → k + m ≤ 9223372036854775807 → endlessB t = false → (0 ≤ t ∧ t ≤ 255) → w.cell? ⟨b, off + k, none⟩ = some (.int .u8 t) → w.cell? ⟨b, off + k + 1, none⟩ = some (.int .u8 129) →
    m = 2 → Calls Try.prog F #[.slice (some ⟨b, off, none⟩) (k + m) c, .int .i64 k] w fun e w' => e = No 12 ∧ R w w'
  m_long : ∀ (b off k m c : Nat) (t x : Int) (w : World), k + m ≤ c → k + m ≤ 9223372036854775807 → endlessB t = false → (0 ≤ t ∧ t ≤ 255) → w.cell? ⟨b, off + k, none⟩ = some (.int .u8 t) → w.cell? ⟨b, off + k + 1, none⟩ = some (.int .u8 129) →
    3 ≤ m → 0 ≤ x → x ≤ 255 → Bys w (some ⟨b, off + k + 1, none⟩) 2 [129, x] → x < 128 → Calls Try.prog F #[.slice (some ⟨b, off, none⟩) (k + m) c, .int .i64 k] w fun e w' => e = No 13 ∧ R w w'
  m_no : ∀ (b off k m c : Nat) (t x : Int) (w : World), k + m ≤ c → k + m ≤ 9223372036854775807 → endlessB t = false → (0 ≤ t ∧ t ≤ 255) → w.cell? ⟨b, off + k, none⟩ = some (.int .u8 t) → w.cell? ⟨b, off + k + 1, none⟩ = some (.int .u8 129) →
    3 ≤ m → 0 ≤ x → x ≤ 255 → Bys w (some ⟨b, off + k + 1, none⟩) 2 [129, x] → 128 ≤ x → (m : Int) - 3 < x → Calls Try.prog F #[.slice (some ⟨b, off, none⟩) (k + m) c, .int .i64 k] w fun e w' => e = No 12 ∧ R w w'
  m_ok : ∀ (b off k m c : Nat) (t x : Int) (w : World), k + m ≤ c → k + m ≤ 9223372036854775807 → endlessB t = false → (0 ≤ t ∧ t ≤ 255) → w.cell? ⟨b, off + k, none⟩ = some (.int .u8 t) → w.cell? ⟨b, off + k + 1, none⟩ = some (.int .u8 129) →
    3 ≤ m → 0 ≤ x → x ≤ 255 → Bys w (some ⟨b, off + k + 1, none⟩) 2 [129, x] → 128 ≤ x → x ≤ (m : Int) - 3 → Calls Try.prog F #[.slice (some ⟨b, off, none⟩) (k + m) c, .int .i64 k] w fun e w' => e = Yes t (k + 3) (k + 3 + x) ∧ R w w'
  l_cut : ∀ (b off k m c : Nat) (t  : Int) (w : World), k + m ≤ c → k + m ≤ 9223372036854775807 → endlessB t = false → (0 ≤ t ∧ t ≤ 255) → w.cell? ⟨b, off + k, none⟩ = some (.int .u8 t) → w.cell? ⟨b, off + k + 1, none⟩ = some (.int .u8 130) →
    2 ≤ m → m ≤ 3 → Calls Try.prog F #[.slice (some ⟨b, off, none⟩) (k + m) c, .int .i64 k] w fun e w' => e = No 12 ∧ R w w'
  l_long : ∀ (b off k m c : Nat) (t x y : Int) (w : World), k + m ≤ c → k + m ≤ 9223372036854775807 → endlessB t = false → (0 ≤ t ∧ t ≤ 255) → w.cell? ⟨b, off + k, none⟩ = some (.int .u8 t) → w.cell? ⟨b, off + k + 1, none⟩ = some (.int .u8 130) →
    4 ≤ m → 0 ≤ x → x ≤ 255 → 0 ≤ y → y ≤ 255 → Bys w (some ⟨b, off + k + 1, none⟩) 3 [130, x, y] → x * 256 + y < 256 → Calls Try.prog F #[.slice (some ⟨b, off, none⟩) (k + m) c, .int .i64 k] w fun e w' => e = No 13 ∧ R w w'
  l_no : ∀ (b off k m c : Nat) (t x y : Int) (w : World), k + m ≤ c → k + m ≤ 9223372036854775807 → endlessB t = false → (0 ≤ t ∧ t ≤ 255) → w.cell? ⟨b, off + k, none⟩ = some (.int .u8 t) → w.cell? ⟨b, off + k + 1, none⟩ = some (.int .u8 130) →
    4 ≤ m → 0 ≤ x → x ≤ 255 → 0 ≤ y → y ≤ 255 → Bys w (some ⟨b, off + k + 1, none⟩) 3 [130, x, y] → 1 ≤ x → (m : Int) - 4 < x * 256 + y → Calls Try.prog F #[.slice (some ⟨b, off, none⟩) (k + m) c, .int .i64 k] w fun e w' => e = No 12 ∧ R w w'
  l_ok : ∀ (b off k m c : Nat) (t x y : Int) (w : World), k + m ≤ c → k + m ≤ 9223372036854775807 → endlessB t = false → (0 ≤ t ∧ t ≤ 255) → w.cell? ⟨b, off + k, none⟩ = some (.int .u8 t) → w.cell? ⟨b, off + k + 1, none⟩ = some (.int .u8 130) →
    4 ≤ m → 0 ≤ x → x ≤ 255 → 0 ≤ y → y ≤ 255 → Bys w (some ⟨b, off + k + 1, none⟩) 3 [130, x, y] → 1 ≤ x → x * 256 + y ≤ (m : Int) - 4 → Calls Try.prog F #[.slice (some ⟨b, off, none⟩) (k + m) c, .int .i64 k] w fun e w' => e = Yes t (k + 4) (k + 4 + (x * 256 + y)) ∧ R w w'
theorem bys_at {w : World} {A : Option Addr} {n k : Nat} {xs ys : List Int} (h : Bys w A n xs) (hy : ys = xs.drop k) (hk : k < n) :
    ∃ b off, A = some ⟨b, off, none⟩ ∧ b < w.heap.size ∧ ∀ j, j < ys.length → w.cell? ⟨b, off + k + j, none⟩ = some (.int .u8 (ys.getD j 0)) := by
  obtain ⟨b, off, hA, hb, hc⟩ := h.2.2 (by omega)
  refine ⟨b, off, hA, hb, fun j hj => ?_⟩
  have hl := h.1
  subst hy
  rw [List.length_drop] at hj
  rw [Nat.add_assoc, hc (k + j) (by omega)]
  simp [List.getD_eq_getElem?_getD, List.getElem?_drop]

theorem bys_mid {w : World} {b off n : Nat} {ys : List Int} (hb : b < w.heap.size) (hf : Fit ys) (hl : ys.length = n) (hc : ∀ j, j < n → w.cell? ⟨b, off + j, none⟩ = some (.int .u8 (ys.getD j 0))) : Bys w (some ⟨b, off, none⟩) n ys :=
  ⟨hl, hf, fun _ => ⟨b, off, rfl, hb, hc⟩⟩

set_option maxHeartbeats 1000000 in
theorem head_of {F : FuncId} {R : World → World → Prop} (W : Ways F R) (A : Option Addr) (n c : Nat) (xs : List Int) (a : Int) (w : World) (hb : Bys w A n xs) (hnc : n ≤ c) (hcm : c ≤ maxLen) :
    Calls Try.prog F #[.slice A n c, .int .i64 a] w fun e w' => e = headE a xs ∧ R w w' := by
  have hl := hb.len
  by_cases ha : a < 0 ∨ (n : Int) < a
  · exact (W.arg A n c a w ha).mono fun e w' ⟨he, hw⟩ => ⟨by rw [he, headE, if_pos (by rw [hl]; exact ha)], hw⟩
  · obtain ⟨k, rfl⟩ := Int.eq_ofNat_of_zero_le (show 0 ≤ a by omega)
    have hE : headE k xs = headR k (headF (xs.drop k)) := by rw [headE, if_neg (by rw [hl]; exact ha), Int.toNat_natCast]
    rw [hE]
    clear hE
    by_cases hk : k = n
    · subst hk
      rw [List.drop_of_length_le (by omega)]
      exact W.endd A k c w hnc (by omega)
    · obtain ⟨ys, hys⟩ : ∃ ys, ys = xs.drop k := ⟨_, rfl⟩
      obtain ⟨b, off, rfl, hbs, hc⟩ := bys_at hb hys (by omega)
      have hfit : Fit ys := hys ▸ hb.fit.drop k
      rw [← hys]
      obtain ⟨m, rfl⟩ : ∃ m, n = k + m := ⟨n - k, by omega⟩
      have hm : ys.length = m := by rw [hys, List.length_drop]; omega
      have hmax : k + m ≤ 9223372036854775807 := by unfold maxLen at hcm; omega
      clear hys hb hl
      match ys, hm, hc, hfit with
      | [], hm, _, _ => simp at hm; omega
      | [t], hm, hc, hfit =>
        have h0 := hc 0 (by simp)
        simp only [List.length_singleton] at hm
        subst hm
        have htf := hfit t (by simp)
        by_cases ht : endlessB t = true
        · rw [headF_one, if_pos ht]
          exact W.tag b off k 1 c t w (by omega) hnc hmax ht htf (by simpa using h0)
        · rw [headF_one, if_neg ht]
          exact W.one b off k c t w hnc hmax (by simpa using ht) htf (by simpa using h0)
      | t :: f :: r, hm, hc, hfit =>
        have h0 := hc 0 (by simp)
        have h1 := hc 1 (by simp)
        have htf := hfit t (by simp)
        have hff := hfit f (by simp)
        simp only [List.length_cons] at hm
        by_cases ht : endlessB t = true
        · rw [headF_tag t f r ht]
          exact W.tag b off k m c t w (by omega) hnc hmax ht htf (by simpa using h0)
        · have ht' : endlessB t = false := by simpa using ht
          by_cases hf : f = 128 ∨ 130 < f
          · rw [headF_len t f r ht hf]
            exact W.len b off k m c t f w (by omega) hnc hmax ht' htf (by simpa using h0) (by simpa using h1) hff.1 hff.2 hf
          · by_cases hs : f < 128
            · rw [headF_s t f r ht hs]
              have hB : Bys w (some ⟨b, off + k + 1, none⟩) 1 [f] := bys_mid hbs (by intro x hx; simp at hx; omega) rfl (by
                intro j hj
                obtain rfl : j = 0 := by omega
                simpa using h1)
              by_cases hx : (r.length : Int) < f
              · rw [if_pos hx]
                exact W.s_no b off k m c t f w hnc hmax ht' htf (by simpa using h0) (by simpa using h1) hff.1 hs (by omega) hB (by omega)
              · rw [if_neg hx]
                refine (W.s_ok b off k m c t f w hnc hmax ht' htf (by simpa using h0) (by simpa using h1) hff.1 hs (by omega) hB (by omega)).mono fun e w' ⟨he, hw⟩ => ⟨?_, hw⟩
                rw [he]; rfl
            · by_cases h9 : f = 129
              · subst h9
                match r, hm, hc, hfit with
                | [], hm, _, _ =>
                  rw [headF_m0 t ht]
                  exact W.m_cut b off k m c t w hnc hmax ht' htf (by simpa using h0) (by simpa using h1) (by simp at hm; omega)
                | x :: r2, hm, hc, hfit =>
                  have hxf := hfit x (by simp)
                  have h2 := hc 2 (by simp)
                  simp only [List.length_cons] at hm
                  have hB : Bys w (some ⟨b, off + k + 1, none⟩) 2 [129, x] := bys_mid hbs (by intro z hz; simp at hz; omega) rfl (by
                    intro j hj
                    match j, hj with
                    | 0, _ => simpa using h1
                    | 1, _ => simpa [Nat.add_assoc] using h2)
                  rw [headF_m t x r2 ht]
                  by_cases hx : x < 128
                  · rw [if_pos hx]
                    exact W.m_long b off k m c t x w hnc hmax ht' htf (by simpa using h0) (by simpa using h1) (by omega) hxf.1 hxf.2 hB hx
                  · rw [if_neg hx]
                    by_cases hy : (r2.length : Int) < x
                    · rw [if_pos hy]
                      exact W.m_no b off k m c t x w hnc hmax ht' htf (by simpa using h0) (by simpa using h1) (by omega) hxf.1 hxf.2 hB (by omega) (by omega)
                    · rw [if_neg hy]
                      refine (W.m_ok b off k m c t x w hnc hmax ht' htf (by simpa using h0) (by simpa using h1) (by omega) hxf.1 hxf.2 hB (by omega) (by omega)).mono fun e w' ⟨he, hw⟩ => ⟨?_, hw⟩
                      rw [he]; rfl
              · obtain rfl : f = 130 := by omega
                match r, hm, hc, hfit with
                | [], hm, _, _ =>
                  rw [headF_l0 t ht]
                  exact W.l_cut b off k m c t w hnc hmax ht' htf (by simpa using h0) (by simpa using h1) (by simp at hm; omega) (by simp at hm; omega)
                | [x], hm, _, _ =>
                  rw [headF_l1 t x ht]
                  exact W.l_cut b off k m c t w hnc hmax ht' htf (by simpa using h0) (by simpa using h1) (by simp at hm; omega) (by simp at hm; omega)
                | x :: y :: r2, hm, hc, hfit =>
                  have hxf := hfit x (by simp)
                  have hyf := hfit y (by simp)
                  have h2 := hc 2 (by simp)
                  have h3 := hc 3 (by simp)
                  simp only [List.length_cons] at hm
                  have hB : Bys w (some ⟨b, off + k + 1, none⟩) 3 [130, x, y] := bys_mid hbs (by intro z hz; simp at hz; omega) rfl (by
                    intro j hj
                    match j, hj with
                    | 0, _ => simpa using h1
                    | 1, _ => simpa [Nat.add_assoc] using h2
                    | 2, _ => simpa [Nat.add_assoc] using h3)
                  rw [headF_l t x y r2 ht]
                  by_cases hx : x * 256 + y < 256
                  · rw [if_pos hx]
                    exact W.l_long b off k m c t x y w hnc hmax ht' htf (by simpa using h0) (by simpa using h1) (by omega) hxf.1 hxf.2 hyf.1 hyf.2 hB hx
                  · rw [if_neg hx]
                    by_cases hy : (r2.length : Int) < x * 256 + y
                    · rw [if_pos hy]
                      exact W.l_no b off k m c t x y w hnc hmax ht' htf (by simpa using h0) (by simpa using h1) (by omega) hxf.1 hxf.2 hyf.1 hyf.2 hB (by omega) (by omega)
                    · rw [if_neg hy]
                      refine (W.l_ok b off k m c t x y w hnc hmax ht' htf (by simpa using h0) (by simpa using h1) (by omega) hxf.1 hxf.2 hyf.1 hyf.2 hB (by omega) (by omega)).mono fun e w' ⟨he, hw⟩ => ⟨?_, hw⟩
                      rw [he]; rfl

theorem head_ways : Ways 12 (fun w w' => w = w') where
  arg := head_arg
  endd := head_end
  tag := fun b off k m c t w hm hnc hmax ht _ h0 => head_tag b off k m c t w hm hnc hmax ht h0
  one := fun b off k c t w hnc hmax ht _ h0 => head_one b off k c t w hnc hmax ht h0
  len := fun b off k m c t f w hm hnc hmax ht _ h0 h1 hf0 hf1 hf => head_len b off k m c t f w hm hnc hmax ht h0 h1 hf0 hf1 hf
  s_no := fun b off k m c t f w hnc hmax ht _ => head_s_no b off k m c t f w hnc hmax ht
  s_ok := fun b off k m c t f w hnc hmax ht _ => head_s_ok b off k m c t f w hnc hmax ht
  m_cut := fun b off k m c t  w hnc hmax ht _ => head_m_cut b off k m c t  w hnc hmax ht
  m_long := fun b off k m c t x w hnc hmax ht _ => head_m_long b off k m c t x w hnc hmax ht
  m_no := fun b off k m c t x w hnc hmax ht _ => head_m_no b off k m c t x w hnc hmax ht
  m_ok := fun b off k m c t x w hnc hmax ht _ => head_m_ok b off k m c t x w hnc hmax ht
  l_cut := fun b off k m c t  w hnc hmax ht _ => head_l_cut b off k m c t  w hnc hmax ht
  l_long := fun b off k m c t x y w hnc hmax ht _ => head_l_long b off k m c t x y w hnc hmax ht
  l_no := fun b off k m c t x y w hnc hmax ht _ => head_l_no b off k m c t x y w hnc hmax ht
  l_ok := fun b off k m c t x y w hnc hmax ht _ => head_l_ok b off k m c t x y w hnc hmax ht
theorem headE_any (A : Option Addr) (n c : Nat) (xs : List Int) (a : Int) (w : World) (hb : Bys w A n xs) (hnc : n ≤ c) (hcm : c ≤ maxLen) :
    Calls Try.prog 12 #[.slice A n c, .int .i64 a] w fun e w' => e = headE a xs ∧ w = w' := head_of head_ways A n c xs a w hb hnc hcm
end Go.Proofs.Ytpfdebelpfcofaa.tlvc
