/- The runes of joined texts; joined texts, prepared. No run in this text. What is prepared is prepared already; blanks about a text. No run in this text. The runes of a text that was written from runes. No run in this text. Great ASCII letters for small ones, byte by byte: the runes alike; blanks' own bytes. No run in this text. Blanks about a text, and blanks for one. No run in this text. A block of bytes of the call's own, written cell by cell; a text's bytes with great letters; a text parted at a blank. -/
import Derived.Test.YthcancakkkjpaaaDoorXe
import Derived.Lib.DecodeN
import Derived.Lib.QuoteLoop
import Derived.Lib.TrimUEq
import Derived.Test.YthcancakkkjpaaaDoorKa
import Derived.Laws.IdiomStrings
import Derived.Lib.ValidAsc
import Derived.Laws.Entries
namespace Go.Proofs.YthcancakkkjpaaaDoor.txm
open Go.Proofs.YthcancakkkjpaaaDoor.tlvc
set_option linter.unusedVariables false
set_option linter.unusedSimpArgs false
def decL (l : List UInt8) : Nat × Nat := Lib.decodeN l.length (l.getD 0 0).toNat (l.getD 1 0).toNat (l.getD 2 0).toNat (l.getD 3 0).toNat
def rL : Nat → List UInt8 → List Int
  | 0, _ => []
  | n + 1, l => if 0 < l.length then ((decL l).1 : Int) :: rL n (l.drop (decL l).2) else []
theorem get_drop (s : ByteArray) (p k : Nat) : (s.data.toList.drop p).getD k 0 = s.get! (p + k) := by
  rw [List.getD_eq_getElem?_getD, List.getElem?_drop]
  show _ = s.data[p + k]!
  rw [getElem!_def, Array.getElem?_toList]
  cases s.data[p + k]? <;> rfl
theorem dec_drop (s : ByteArray) (p : Nat) : Utf8.decode s p = decL (s.data.toList.drop p) := by
  rw [Lib.decode_at]
  unfold decL
  rw [get_drop, get_drop, get_drop, get_drop, List.length_drop]
  rfl
theorem runesF_rL (s : ByteArray) : ∀ n p, runesF s n p = rL n (s.data.toList.drop p)
  | 0, _ => rfl
  | n + 1, p => by
    unfold runesF rL
    have e : p < s.size ↔ 0 < (s.data.toList.drop p).length := by rw [List.length_drop]; show p < s.data.size ↔ 0 < s.data.toList.length - p; rw [Array.length_toList]; omega
    by_cases h : p < s.size
    · rw [if_pos h, if_pos (e.1 h), runesF_rL s n, dec_drop, List.drop_drop]
    · rw [if_neg h, if_neg (fun x => h (e.2 x))]
theorem decN_more (n n' b0 b1 b2 b3 c1 c2 c3 : Nat) (h0 : 1 ≤ n) (hn : n ≤ n') (h1 : 1 < n → c1 = b1) (h2 : 2 < n → c2 = b2) (h3 : 3 < n → c3 = b3) (k1 : n = 1 → c1 / 64 ≠ 2) (k2 : n = 2 → c2 / 64 ≠ 2) (k3 : n = 3 → c3 / 64 ≠ 2) :
    Lib.decodeN n' b0 c1 c2 c3 = Lib.decodeN n b0 b1 b2 b3 := by
  rcases Nat.lt_or_ge 3 n with h | h
  · rw [h1 (by omega), h2 (by omega), h3 h]
    unfold Lib.decodeN
    simp only [show 1 < n by omega, show 2 < n by omega, h, show 1 < n' by omega, show 2 < n' by omega, show 3 < n' by omega]
  · obtain rfl | rfl | rfl : n = 1 ∨ n = 2 ∨ n = 3 := by omega
    · have := k1 rfl
      unfold Lib.decodeN
      simp [this]
    · have := k2 rfl
      rw [h1 (by omega)]
      unfold Lib.decodeN
      simp [this, show 1 < n' by omega]
    · have := k3 rfl
      rw [h1 (by omega), h2 (by omega)]
      unfold Lib.decodeN
      simp [this, show 1 < n' by omega, show 2 < n' by omega]
/-- The next text does not begin in the middle of a rune. -/
def Starts (m : List UInt8) : Prop := (m.getD 0 0).toNat / 64 ≠ 2
theorem getD_app_l {l m : List UInt8} {k : Nat} (h : k < l.length) : (l ++ m).getD k 0 = l.getD k 0 := by
  simp [List.getD_eq_getElem?_getD, List.getElem?_append_left h]
theorem getD_app_0 {l m : List UInt8} {k : Nat} (h : l.length = k) : (l ++ m).getD k 0 = m.getD 0 0 := by
  subst h; simp [List.getD_eq_getElem?_getD, List.getElem?_append_right]
theorem dec_app {l m : List UInt8} (hl : 0 < l.length) (hm : Starts m) : decL (l ++ m) = decL l := by
  unfold decL
  rw [getD_app_l hl]
  refine decN_more _ _ _ _ _ _ _ _ _ hl (by simp) ?_ ?_ ?_ ?_ ?_ ?_
  · intro h; rw [getD_app_l h]
  · intro h; rw [getD_app_l h]
  · intro h; rw [getD_app_l h]
  · intro h; rw [getD_app_0 h]; exact hm
  · intro h; rw [getD_app_0 h]; exact hm
  · intro h; rw [getD_app_0 h]; exact hm
theorem dec_w {l : List UInt8} (hl : 0 < l.length) : 1 ≤ (decL l).2 ∧ (decL l).2 ≤ l.length := ⟨Lib.decodeN_ge1 _ _ _ _ _, Lib.decodeN_width_le _ _ _ _ _ hl⟩
theorem rL_more : ∀ (n k : Nat) (l : List UInt8), l.length ≤ n → rL (n + k) l = rL n l
  | 0, k, l, h => by
    have : l = [] := List.eq_nil_of_length_eq_zero (by omega)
    subst this
    cases k <;> simp [rL]
  | n + 1, k, l, h => by
    rw [show n + 1 + k = (n + k) + 1 by omega]
    unfold rL
    by_cases hl : 0 < l.length
    · have := dec_w hl
      rw [if_pos hl, if_pos hl, rL_more n k _ (by rw [List.length_drop]; omega)]
    · rw [if_neg hl, if_neg hl]
theorem rL_app : ∀ (n : Nat) (l m : List UInt8), l.length ≤ n → Starts m → rL (n + m.length) (l ++ m) = rL n l ++ rL m.length m
  | 0, l, m, h, _ => by
    have : l = [] := List.eq_nil_of_length_eq_zero (by omega)
    subst this
    simp [rL]
  | n + 1, l, m, h, hm => by
    by_cases hl : 0 < l.length
    · have hw := dec_w hl
      rw [show n + 1 + m.length = (n + m.length) + 1 by omega]
      have e1 : rL (n + m.length + 1) (l ++ m) = ((decL (l ++ m)).1 : Int) :: rL (n + m.length) ((l ++ m).drop (decL (l ++ m)).2) := by
        rw [rL, if_pos (by rw [List.length_append]; omega)]
      have e2 : rL (n + 1) l = ((decL l).1 : Int) :: rL n (l.drop (decL l).2) := by rw [rL, if_pos hl]
      rw [e1, e2, dec_app hl hm, List.drop_append_of_le_length hw.2, rL_app n _ m (by rw [List.length_drop]; omega) hm]
      rfl
    · have : l = [] := List.eq_nil_of_length_eq_zero (by omega)
      subst this
      have := rL_more m.length (n + 1) m (Nat.le_refl _)
      rw [Nat.add_comm] at this
      rw [List.nil_append, this]
      simp [rL]
theorem runes_app (a b : ByteArray) (h : Starts b.data.toList) : runes (a ++ b) = runes a ++ runes b := by
  unfold runes
  rw [runesF_rL, runesF_rL, runesF_rL, ByteArray.size_append, ByteArray.data_append, Array.toList_append, List.drop_zero, List.drop_zero, List.drop_zero]
  have e1 : b.size = b.data.toList.length := by rw [Array.length_toList]; rfl
  rw [e1]
  exact rL_app a.size _ _ (by rw [Array.length_toList]; exact Nat.le_refl _) h

/-! ### prepared -/
def J3 (o : List Int) (s1 s2 : List Int × Bool) : Prop := (s2.1 = [] ∧ s2.2 = false ∧ s1.1 = o ∧ s1.2 = true) ∨ (s2.1 ≠ [] ∧ s1.1 = o ++ [32] ++ s2.1 ∧ s1.2 = s2.2)
theorem j3_step {o : List Int} (ho : o ≠ []) {s1 s2 : List Int × Bool} (r : Int) (h : J3 o s1 s2) : J3 o (stepP s1 r) (stepP s2 r) := by
  obtain ⟨o1, p1⟩ := s1
  obtain ⟨o2, p2⟩ := s2
  rcases kindw r with hk | hk | hk | hk
  · simpa [stepP, hk] using h
  · rcases h with ⟨a, b, c, d⟩ | ⟨a, b, c⟩
    · simp only at a b c d; subst a b c d
      exact .inl ⟨by simp [stepP, hk], by simp [stepP, hk], by simp [stepP, hk], by simp [stepP, hk, ho]⟩
    · simp only at a b c; subst b c
      exact .inr ⟨by simpa [stepP, hk] using a, by simp [stepP, hk], by simp [stepP, hk, a]⟩
  · rcases h with ⟨a, b, c, d⟩ | ⟨a, b, c⟩
    · simp only at a b c d; subst a b c d
      exact .inr ⟨by simp [stepP, hk], by simp [stepP, hk], by simp [stepP, hk]⟩
    · simp only at a b c; subst b c
      exact .inr ⟨by simp [stepP, hk], by simp [stepP, hk], by simp [stepP, hk]⟩
  · rcases h with ⟨a, b, c, d⟩ | ⟨a, b, c⟩
    · simp only at a b c d; subst a b c d
      exact .inr ⟨by simp [stepP, hk], by simp [stepP, hk], by simp [stepP, hk]⟩
    · simp only at a b c; subst b c
      exact .inr ⟨by simp [stepP, hk], by simp [stepP, hk], by simp [stepP, hk]⟩
theorem j3_all {o : List Int} (ho : o ≠ []) : ∀ (y : List Int) (s1 s2 : List Int × Bool), J3 o s1 s2 → J3 o (y.foldl stepP s1) (y.foldl stepP s2)
  | [], _, _, h => h
  | r :: y, s1, s2, h => j3_all ho y _ _ (j3_step ho r h)
theorem prepR_join (x y : List Int) : prepR (x ++ ([32] ++ y)) = if prepR x = [] then prepR y else if prepR y = [] then prepR x else prepR x ++ [32] ++ prepR y := by
  unfold prepR
  rw [List.foldl_append, List.foldl_append]
  obtain ⟨⟨ox, px⟩, hx⟩ : ∃ st, x.foldl stepP ([], false) = st := ⟨_, rfl⟩
  rw [hx]
  have e : [32].foldl stepP (ox, px) = (ox, decide (ox ≠ [])) := by
    have : kindF 32 = 2 := by decide
    simp [stepP, this]
  rw [e]
  by_cases h : ox = []
  · subst h; simp
  · have hd : decide (ox ≠ []) = true := decide_eq_true h
    rw [hd, if_neg h]
    have := j3_all h y (ox, true) ([], false) (.inl ⟨rfl, rfl, rfl, rfl⟩)
    rcases this with ⟨a, b, c, d⟩ | ⟨a, b, c⟩
    · rw [if_pos a, c]
    · rw [if_neg a, b]
theorem prepF_join (a b : ByteArray) : prepF (a ++ (⟨#[32]⟩ ++ b)) = if prepF a = [] then prepF b else if prepF b = [] then prepF a else prepF a ++ [32] ++ prepF b := by
  have r32 : runes (⟨#[32]⟩ ++ b) = [32] ++ runes b := by
    have hs : (⟨#[32]⟩ ++ b : ByteArray).data.toList = 32 :: b.data.toList := by rw [ByteArray.data_append]; simp
    have hz : (⟨#[32]⟩ ++ b : ByteArray).size = b.size + 1 := by rw [ByteArray.size_append]; show 1 + b.size = _; omega
    unfold runes
    rw [runesF_rL, hz, hs, List.drop_zero, rL, if_pos (by simp)]
    have hd : decL (32 :: b.data.toList) = (32, 1) := by unfold decL; exact Lib.decodeN_ascii _ _ _ _ _ (by simp)
    rw [hd, runesF_rL]
    simp
  have key : runes (a ++ (⟨#[32]⟩ ++ b)) = runes a ++ ([32] ++ runes b) := by
    rw [runes_app, r32]
    unfold Starts
    rw [ByteArray.data_append]
    simp
  have en : ∀ l, enc l = [] ↔ l = [] := fun l => by rw [← enc_nil]; exact List.length_eq_zero_iff.symm
  unfold prepF
  rw [key, prepR_join]
  simp only [en]
  split
  · rfl
  · split
    · rfl
    · rw [enc_app, enc_app, enc_one, encode32]
end Go.Proofs.YthcancakkkjpaaaDoor.txm
namespace Go.Proofs.YthcancakkkjpaaaDoor.txm
open Go.Proofs.YthcancakkkjpaaaDoor.tlvc
set_option linter.unusedVariables false
set_option linter.unusedSimpArgs false
theorem great_small {r : Int} (h : kindF r = 3) : kindF (r + 32) = 0 := by
  have hg := kind3_great h
  exact kind_0 (by unfold Noth; unfold Great at hg; omega) (by unfold Blank; unfold Great at hg; omega) (by unfold Great at hg ⊢; omega)
/-- What is out stays as it is, prepared again. -/
def J4 (st : List Int × Bool) : Prop := st.1.foldl stepP ([], false) = (st.1, false) ∧ (st.2 = true → st.1 ≠ [])
theorem kind_32 : kindF 32 = 2 := by decide
theorem j4_put {o : List Int} {p : Bool} {c : Int} (h : J4 (o, p)) (hc : kindF c = 0) : J4 (o ++ (if p = true then [32] else []) ++ [c], false) := by
  obtain ⟨h1, h2⟩ := h
  simp only at h1 h2
  refine ⟨?_, by simp⟩
  simp only [List.foldl_append, h1]
  cases p
  · simp [stepP, hc]
  · have := h2 rfl
    simp [stepP, hc, kind_32, this]
theorem j4_step {st : List Int × Bool} (r : Int) (h : J4 st) : J4 (stepP st r) := by
  obtain ⟨o, p⟩ := st
  rcases kindw r with hk | hk | hk | hk
  · simpa [stepP, hk] using h
  · exact ⟨by simpa [stepP, hk] using h.1, by simp [stepP, hk]⟩
  · have := j4_put h (great_small hk)
    simpa [stepP, hk] using this
  · have := j4_put h hk
    simpa [stepP, hk] using this
theorem j4_all : ∀ (l : List Int) (st : List Int × Bool), J4 st → J4 (l.foldl stepP st)
  | [], _, h => h
  | r :: l, st, h => j4_all l _ (j4_step r h)
theorem prepR_idem (l : List Int) : prepR (prepR l) = prepR l := by
  have := (j4_all l ([], false) ⟨rfl, by simp⟩).1
  unfold prepR
  rw [this]
/-- A blank before a text, and blanks behind it, change nothing. -/
theorem prepR_about {b : Int} (hb : kindF b = 2) (l m : List Int) (hm : ∀ x ∈ m, kindF x = 2) : prepR ([b] ++ l ++ m) = prepR l := by
  have tail : ∀ (m : List Int) (st : List Int × Bool), (∀ x ∈ m, kindF x = 2) → (m.foldl stepP st).1 = st.1 := by
    intro m
    induction m with
    | nil => intro st _; rfl
    | cons x m ih =>
      intro st h
      rw [List.foldl_cons, ih _ (fun y hy => h y (List.mem_cons_of_mem _ hy))]
      have := h x List.mem_cons_self
      simp [stepP, this]
  unfold prepR
  rw [List.foldl_append, tail m _ hm, List.foldl_append]
  have e : [b].foldl stepP ([], false) = ([], false) := by simp [stepP, hb]
  rw [e]
/-- Blanks for one change nothing. -/
theorem prepR_split {b : Int} (hb : kindF b = 2) (x y : List Int) : prepR (x ++ ([b] ++ ([b] ++ ([32] ++ y)))) = prepR (x ++ ([32] ++ y)) := by
  unfold prepR
  simp only [List.foldl_append]
  obtain ⟨⟨o, p⟩, hx⟩ : ∃ st, x.foldl stepP ([], false) = st := ⟨_, rfl⟩
  rw [hx]
  have e : ∀ (q : Bool) (c : Int), kindF c = 2 → [c].foldl stepP (o, q) = (o, decide (o ≠ [])) := fun q c hc => by simp [stepP, hc]
  rw [e _ _ hb, e _ _ hb, e _ _ kind_32, e _ _ kind_32]
/-- Great ASCII letters for small ones. -/
def up1 (r : Int) : Int := if 97 ≤ r ∧ r ≤ 122 then r - 32 else r
theorem up_kind {r : Int} (h : 97 ≤ r ∧ r ≤ 122) : kindF r = 0 ∧ kindF (r - 32) = 3 :=
  ⟨kind_0 (by unfold Noth; omega) (by unfold Blank; omega) (by unfold Great; omega), kind_g (by unfold Great; omega)⟩
theorem step_up (st : List Int × Bool) (r : Int) : stepP st (up1 r) = stepP st r := by
  unfold up1
  split
  · rename_i h
    obtain ⟨a, b⟩ := up_kind h
    simp [stepP, a, b]
  · rfl
theorem prepR_up (l : List Int) : prepR (l.map up1) = prepR l := by
  have : ∀ (l : List Int) (st : List Int × Bool), (l.map up1).foldl stepP st = l.foldl stepP st := by
    intro l
    induction l with
    | nil => intro st; rfl
    | cons r l ih => intro st; rw [List.map_cons, List.foldl_cons, List.foldl_cons, step_up, ih]
  unfold prepR
  rw [this]
end Go.Proofs.YthcancakkkjpaaaDoor.txm
namespace Go.Proofs.YthcancakkkjpaaaDoor.txm
open Go.Proofs.YthcancakkkjpaaaDoor.tlvc
set_option linter.unusedVariables false
set_option linter.unusedSimpArgs false
def ValR (r : Nat) : Prop := r < 55296 ∨ (57343 < r ∧ r ≤ 1114111)
theorem dN2 {n b2 b3 r : Nat} (hn : 1 < n) (h : 128 ≤ r) (h2 : r < 2048) : Lib.decodeN n (192 + r / 64) (128 + r % 64) b2 b3 = (r, 2) := by
  have e : (192 + r / 64) % 32 * 64 + (128 + r % 64) % 64 = r := by omega
  unfold Lib.decodeN
  rw [if_neg (by omega), if_pos ⟨by omega, hn, by omega⟩, e, if_pos h]
theorem dN3 {n b3 r : Nat} (hn : 2 < n) (h : 2048 ≤ r) (h2 : r < 65536) (hv : r < 55296 ∨ 57344 ≤ r) : Lib.decodeN n (224 + r / 4096) (128 + r / 64 % 64) (128 + r % 64) b3 = (r, 3) := by
  have e : (224 + r / 4096) % 16 * 4096 + (128 + r / 64 % 64) % 64 * 64 + (128 + r % 64) % 64 = r := by omega
  unfold Lib.decodeN
  rw [if_neg (by omega), if_neg (fun h => by have := h.1; omega), if_pos ⟨by omega, ⟨by omega, by omega⟩, hn, by omega⟩, e, if_pos ⟨h, by omega⟩]
theorem dN4 {n r : Nat} (hn : 3 < n) (h : 65536 ≤ r) (h2 : r ≤ 1114111) : Lib.decodeN n (240 + r / 262144) (128 + r / 4096 % 64) (128 + r / 64 % 64) (128 + r % 64) = (r, 4) := by
  have e : (240 + r / 262144) % 8 * 262144 + (128 + r / 4096 % 64) % 64 * 4096 + (128 + r / 64 % 64) % 64 * 64 + (128 + r % 64) % 64 = r := by omega
  unfold Lib.decodeN
  rw [if_neg (by omega), if_neg (fun h => by have := h.1; omega), if_neg (fun h => by have := h.1; omega), if_pos ⟨by omega, ⟨by omega, by omega⟩, ⟨by omega, by omega⟩, hn, by omega⟩, e, if_pos ⟨h, by omega⟩]
theorem u8n {n : Nat} (h : n < 256) : (UInt8.ofNat n).toNat = n := by rw [UInt8.toNat_ofNat']; exact Nat.mod_eq_of_lt h
theorem dec_enc {r : Nat} (h : ValR r) (m : List UInt8) : decL (Lib.encodeRune r ++ m) = (r, (Lib.encodeRune r).length) := by
  unfold ValR at h
  rw [← encode_rune r]
  by_cases c1 : r < 128
  · rw [Extern.FmtText.enc1 r c1]
    show Lib.decodeN _ (UInt8.ofNat r).toNat _ _ _ = _
    rw [u8n (by omega)]
    exact Lib.decodeN_ascii _ _ _ _ _ c1
  · by_cases c2 : r < 2048
    · rw [Extern.FmtText.enc2 r c1 c2]
      show Lib.decodeN _ (UInt8.ofNat (192 + r / 64)).toNat (UInt8.ofNat (128 + r % 64)).toNat _ _ = _
      rw [u8n (by omega), u8n (by omega)]
      exact dN2 (by simp) (by omega) c2
    · by_cases c3 : r < 65536
      · rw [Extern.FmtText.enc3 r c2 c3 (by omega)]
        show Lib.decodeN _ (UInt8.ofNat (224 + r / 4096)).toNat (UInt8.ofNat (128 + r / 64 % 64)).toNat (UInt8.ofNat (128 + r % 64)).toNat _ = _
        rw [u8n (by omega), u8n (by omega), u8n (by omega)]
        exact dN3 (by simp) (by omega) c3 (by omega)
      · rw [Extern.FmtText.enc4 r c3 (by omega)]
        show Lib.decodeN _ (UInt8.ofNat (240 + r / 262144)).toNat (UInt8.ofNat (128 + r / 4096 % 64)).toNat (UInt8.ofNat (128 + r / 64 % 64)).toNat (UInt8.ofNat (128 + r % 64)).toNat = _
        rw [u8n (by omega), u8n (by omega), u8n (by omega), u8n (by omega)]
        exact dN4 (by simp) (by omega) (by omega)
def ValL (l : List Int) : Prop := ∀ x ∈ l, 0 ≤ x ∧ ValR x.toNat
theorem rL_enc : ∀ (l : List Int) (n : Nat), ValL l → (enc l).length ≤ n → rL n (enc l) = l
  | [], n, _, _ => by cases n <;> simp [enc, rL]
  | r :: l, n, h, hn => by
    obtain ⟨h0, hv⟩ := h r List.mem_cons_self
    obtain ⟨k, rfl⟩ : ∃ k : Nat, r = k := ⟨r.toNat, by omega⟩
    have hv : ValR k := by simpa using hv
    have e : enc ((k : Int) :: l) = Lib.encodeRune k ++ enc l := by simp [enc]
    have hl := encR_len k
    rw [e, List.length_append] at hn
    obtain ⟨n', rfl⟩ : ∃ n', n = n' + 1 := ⟨n - 1, by omega⟩
    rw [e, rL, if_pos (by rw [List.length_append]; omega), dec_enc hv, List.drop_left]
    rw [rL_enc l n' (fun x hx => h x (List.mem_cons_of_mem _ hx)) (by omega)]
theorem runes_enc {l : List Int} (h : ValL l) : runes ⟨(enc l).toArray⟩ = l := by
  unfold runes
  rw [runesF_rL, List.drop_zero]
  exact rL_enc l _ h (by show (enc l).length ≤ (enc l).toArray.size; rw [List.size_toArray]; exact Nat.le_refl _)
theorem decL_val (l : List UInt8) : ValR (decL l).1 := Lib.decodeN_valid _ _ _ _ _ (UInt8.toNat_lt _)
theorem rL_val : ∀ (n : Nat) (l : List UInt8), ValL (rL n l)
  | 0, _ => by intro x hx; simp [rL] at hx
  | n + 1, l => by
    intro x hx
    unfold rL at hx
    split at hx
    · rcases List.mem_cons.1 hx with rfl | hx
      · exact ⟨by omega, by simpa using decL_val l⟩
      · exact rL_val n _ x hx
    · simp at hx
theorem step_val {st : List Int × Bool} {r : Int} (h : ValL st.1) (hr : 0 ≤ r ∧ ValR r.toNat) : ValL (stepP st r).1 := by
  obtain ⟨o, p⟩ := st
  have put : ∀ c : Int, 0 ≤ c ∧ ValR c.toNat → ValL (o ++ (if p = true then [32] else []) ++ [c]) := fun c hc x hx => by
    simp only [List.mem_append, List.mem_singleton] at hx
    rcases hx with (hx | hx) | rfl
    · exact h x hx
    · split at hx
      · simp at hx; subst hx; exact ⟨by omega, .inl (by decide)⟩
      · simp at hx
    · exact hc
  rcases kindw r with hk | hk | hk | hk
  · simpa [stepP, hk] using h
  · simpa [stepP, hk] using h
  · have hg := kind3_great hk
    have := put (r + 32) ⟨by omega, .inl (by unfold Great at hg; omega)⟩
    simpa [stepP, hk] using this
  · have := put r hr
    simpa [stepP, hk] using this
theorem fold_val : ∀ (l : List Int) (st : List Int × Bool), ValL l → ValL st.1 → ValL (l.foldl stepP st).1
  | [], _, _, h => h
  | r :: l, st, hl, h => fold_val l _ (fun x hx => hl x (List.mem_cons_of_mem _ hx)) (step_val h (hl r List.mem_cons_self))
/-- What is prepared is prepared already. -/
theorem prepF_idem (s : ByteArray) : prepF ⟨(prepF s).toArray⟩ = prepF s := by
  have hv : ValL (prepR (runes s)) := by
    unfold prepR
    refine fold_val _ _ ?_ (fun x hx => by cases hx)
    unfold runes
    rw [runesF_rL]
    exact rL_val _ _
  have e : runes ⟨(prepF s).toArray⟩ = prepR (runes s) := runes_enc hv
  show enc (prepR (runes ⟨(prepF s).toArray⟩)) = prepF s
  rw [e, prepR_idem]
  rfl
end Go.Proofs.YthcancakkkjpaaaDoor.txm
namespace Go.Proofs.YthcancakkkjpaaaDoor.txm
open Go.Proofs.YthcancakkkjpaaaDoor.tlvc
set_option linter.unusedVariables false
set_option linter.unusedSimpArgs false
def upN (b : Nat) : Nat := if 97 ≤ b ∧ b ≤ 122 then b - 32 else b
def up8 (x : UInt8) : UInt8 := UInt8.ofNat (upN x.toNat)
theorem up8_nat (x : UInt8) : (up8 x).toNat = upN x.toNat := by
  have := UInt8.toNat_lt x
  unfold up8
  exact u8n (by unfold upN; split <;> omega)
theorem upN_class (b : Nat) : upN b = b ∨ (b / 64 ≠ 2 ∧ upN b / 64 ≠ 2) := by
  unfold upN; split
  · exact .inr (by omega)
  · exact .inl rfl
theorem dN_up {n b0 b1 b2 b3 c1 c2 c3 : Nat} (h1 : c1 = b1 ∨ (b1 / 64 ≠ 2 ∧ c1 / 64 ≠ 2)) (h2 : c2 = b2 ∨ (b2 / 64 ≠ 2 ∧ c2 / 64 ≠ 2)) (h3 : c3 = b3 ∨ (b3 / 64 ≠ 2 ∧ c3 / 64 ≠ 2)) :
    Lib.decodeN n b0 c1 c2 c3 = Lib.decodeN n b0 b1 b2 b3 := by
  rcases h1 with rfl | ⟨a1, a2⟩
  · rcases h2 with rfl | ⟨a1, a2⟩
    · rcases h3 with rfl | ⟨a1, a2⟩
      · rfl
      · unfold Lib.decodeN; simp [a1, a2]
    · unfold Lib.decodeN; simp [a1, a2]
  · unfold Lib.decodeN; simp [a1, a2]
theorem dN_ge {n b0 b1 b2 b3 : Nat} (h : 128 ≤ b0) : 128 ≤ (Lib.decodeN n b0 b1 b2 b3).1 := by
  unfold Lib.decodeN
  rw [if_neg (by omega)]
  repeat' split
  all_goals first | omega | decide
theorem getD_up (l : List UInt8) (k : Nat) : ((l.map up8).getD k 0).toNat = upN (l.getD k 0).toNat := by
  rw [List.getD_eq_getElem?_getD, List.getD_eq_getElem?_getD, List.getElem?_map]
  cases l[k]? with
  | none => rfl
  | some x => exact up8_nat x
theorem decL_up (l : List UInt8) : (decL (l.map up8)).2 = (decL l).2 ∧ ((decL (l.map up8)).1 : Int) = up1 ((decL l).1 : Int) := by
  unfold decL
  rw [List.length_map, getD_up, getD_up, getD_up, getD_up]
  obtain ⟨b0, h0⟩ : ∃ b, (l.getD 0 0).toNat = b := ⟨_, rfl⟩
  rw [h0, dN_up (upN_class _) (upN_class _) (upN_class _)]
  by_cases h : b0 < 128
  · have hu : upN b0 < 128 := by unfold upN; split <;> omega
    rw [Lib.decodeN_ascii _ _ _ _ _ h, Lib.decodeN_ascii _ _ _ _ _ hu]
    refine ⟨rfl, ?_⟩
    simp only
    unfold upN up1
    split
    · rw [if_pos (by omega)]; omega
    · rw [if_neg (by omega)]
  · have hu : upN b0 = b0 := by unfold upN; rw [if_neg (by omega)]
    rw [hu]
    refine ⟨rfl, ?_⟩
    have := dN_ge (n := l.length) (b1 := (l.getD 1 0).toNat) (b2 := (l.getD 2 0).toNat) (b3 := (l.getD 3 0).toNat) (show 128 ≤ b0 by omega)
    unfold up1
    rw [if_neg (by omega)]
theorem rL_up : ∀ (n : Nat) (l : List UInt8), rL n (l.map up8) = (rL n l).map up1
  | 0, _ => rfl
  | n + 1, l => by
    unfold rL
    rw [List.length_map]
    by_cases h : 0 < l.length
    · obtain ⟨a, b⟩ := decL_up l
      rw [if_pos h, if_pos h, a, b, ← List.map_drop, rL_up n, List.map_cons]
    · rw [if_neg h, if_neg h]; rfl
theorem prepF_up (s : ByteArray) : prepF ⟨(s.data.toList.map up8).toArray⟩ = prepF s := by
  have e : runes ⟨(s.data.toList.map up8).toArray⟩ = (runes s).map up1 := by
    unfold runes
    rw [runesF_rL, runesF_rL, List.drop_zero, List.drop_zero]
    have hz : (⟨(s.data.toList.map up8).toArray⟩ : ByteArray).size = s.size := by
      show (s.data.toList.map up8).toArray.size = s.data.size
      rw [List.size_toArray, List.length_map, Array.length_toList]
    rw [hz]
    exact rL_up _ _
  unfold prepF
  rw [e, prepR_up]
/-- A text that is one blank. -/
def OneB (b : ByteArray) : Prop := Starts b.data.toList ∧ ∃ c, runes b = [c] ∧ kindF c = 2
theorem ones : OneB ⟨#[32]⟩ ∧ OneB ⟨#[9]⟩ ∧ OneB ⟨#[194, 160]⟩ ∧ OneB ⟨#[227, 128, 128]⟩ ∧ OneB ⟨#[226, 128, 131]⟩ :=
  ⟨⟨by unfold Starts; decide, 32, by decide, by decide⟩, ⟨by unfold Starts; decide, 9, by decide, by decide⟩, ⟨by unfold Starts; decide, 160, by decide, by decide⟩, ⟨by unfold Starts; decide, 12288, by decide, by decide⟩, ⟨by unfold Starts; decide, 8195, by decide, by decide⟩⟩
end Go.Proofs.YthcancakkkjpaaaDoor.txm
namespace Go.Proofs.YthcancakkkjpaaaDoor.txm
open Go.Proofs.YthcancakkkjpaaaDoor.tlvc
set_option linter.unusedVariables false
set_option linter.unusedSimpArgs false
/-- A text that is one blank. -/
def BlankB (b : ByteArray) : Prop := Starts b.data.toList ∧ ∃ c : Nat, ValR c ∧ kindF c = 2 ∧ b.data.toList = Lib.encodeRune c
theorem blankBs : BlankB ⟨#[32]⟩ ∧ BlankB ⟨#[9]⟩ ∧ BlankB ⟨#[194, 160]⟩ ∧ BlankB ⟨#[227, 128, 128]⟩ ∧ BlankB ⟨#[226, 128, 131]⟩ :=
  ⟨⟨by unfold Starts; decide, 32, .inl (by decide), by decide, by decide⟩, ⟨by unfold Starts; decide, 9, .inl (by decide), by decide, by decide⟩, ⟨by unfold Starts; decide, 160, .inl (by decide), by decide, by decide⟩, ⟨by unfold Starts; decide, 12288, .inl (by decide), by decide, by decide⟩, ⟨by unfold Starts; decide, 8195, .inl (by decide), by decide, by decide⟩⟩
theorem runes_pre {b : ByteArray} {c : Nat} (hb : b.data.toList = Lib.encodeRune c) (hv : ValR c) (s : ByteArray) : runes (b ++ s) = [(c : Int)] ++ runes s := by
  have hl := encR_len c
  have hz : b.size = (Lib.encodeRune c).length := by rw [← hb, Array.length_toList]; rfl
  have hs : s.size = s.data.toList.length := by rw [Array.length_toList]; rfl
  unfold runes
  rw [runesF_rL, runesF_rL, List.drop_zero, List.drop_zero, ByteArray.size_append, ByteArray.data_append, Array.toList_append, hb, hz, hs]
  obtain ⟨k, hk⟩ : ∃ k, (Lib.encodeRune c).length = k + 1 := ⟨(Lib.encodeRune c).length - 1, by omega⟩
  rw [hk, show k + 1 + s.data.toList.length = (s.data.toList.length + k) + 1 by omega, rL, if_pos (by rw [List.length_append]; omega), dec_enc hv, List.drop_left, rL_more _ _ _ (Nat.le_refl _)]
  rfl
theorem starts_app {b s : ByteArray} {c : Nat} (hb : b.data.toList = Lib.encodeRune c) (h : Starts b.data.toList) : Starts (b ++ s).data.toList := by
  have hl := encR_len c
  unfold Starts at h ⊢
  rw [ByteArray.data_append, Array.toList_append, getD_app_l (by rw [hb]; omega)]
  exact h
theorem prepF_about {b : ByteArray} (h : BlankB b) (s : ByteArray) : prepF (b ++ s ++ b ++ ⟨#[32]⟩) = prepF s := by
  obtain ⟨hs, c, hv, hk, hb⟩ := h
  obtain ⟨h32, c2, hv2, hk2, hb2⟩ := blankBs.1
  have e : b ++ s ++ b ++ ⟨#[32]⟩ = b ++ (s ++ (b ++ ⟨#[32]⟩)) := by rw [ByteArray.append_assoc, ByteArray.append_assoc]
  have e3 : runes (⟨#[32]⟩ : ByteArray) = [32] := by decide
  have key : runes (b ++ s ++ b ++ ⟨#[32]⟩) = [(c : Int)] ++ runes s ++ [(c : Int), 32] := by
    rw [e, runes_pre hb hv, runes_app _ _ (starts_app hb hs), runes_pre hb hv, e3]
    simp
  unfold prepF
  rw [key, prepR_about hk]
  intro x hx
  simp only [List.mem_cons, List.not_mem_nil, or_false] at hx
  rcases hx with rfl | rfl
  · exact hk
  · exact kind_32
theorem prepF_split {b : ByteArray} (h : BlankB b) (s t : ByteArray) : prepF (s ++ b ++ b ++ (⟨#[32]⟩ ++ t)) = prepF (s ++ (⟨#[32]⟩ ++ t)) := by
  obtain ⟨hs, c, hv, hk, hb⟩ := h
  have hb3 : (⟨#[32]⟩ : ByteArray).data.toList = Lib.encodeRune (32 : Nat) := by decide
  have h32 : Starts (⟨#[32]⟩ : ByteArray).data.toList := by unfold Starts; decide
  have hv3 : ValR 32 := .inl (by decide)
  have e : s ++ b ++ b ++ (⟨#[32]⟩ ++ t) = s ++ (b ++ (b ++ (⟨#[32]⟩ ++ t))) := by rw [ByteArray.append_assoc, ByteArray.append_assoc]
  unfold prepF
  rw [e, runes_app _ _ (starts_app hb hs), runes_pre hb hv, runes_pre hb hv, runes_app _ _ (starts_app hb3 h32), runes_pre hb3 hv3]
  exact congrArg enc (prepR_split hk _ _)
end Go.Proofs.YthcancakkkjpaaaDoor.txm
namespace Go.Proofs.YthcancakkkjpaaaDoor.tlvc
open Go.RowKit
set_option linter.unusedVariables false
/-- Block g holds n bytes at its beginning, none of them frozen. -/
def Gr (w : World) (g n : Nat) (f : Nat → Int) : Prop := g < w.heap.size ∧ ∀ j, j < n → w.cell? ⟨g, j, none⟩ = some (.int .u8 (f j)) ∧ w.frozen? ⟨g, j, none⟩ = false
theorem Gr.set {w : World} {g n : Nat} {f : Nat → Int} (h : Gr w g n f) {k : Nat} (hk : k < n) (z : Int) : Gr (w.setCell ⟨g, k, none⟩ (.int .u8 z)) g n (fun j => if j = k then z else f j) := by
  refine ⟨by simpa [World.setCell] using h.1, fun j hj => ⟨?_, ?_⟩⟩
  · by_cases e : j = k
    · subst e
      show _ = some (Value.int .u8 (if j = j then z else f j))
      rw [if_pos rfl]
      exact World.cell?_setCell_same _ _ _ (h.2 j hj).1
    · show _ = some (Value.int .u8 (if j = k then z else f j))
      rw [if_neg e, World.cell?_setCell_other _ _ _ _ (by intro hh; exact e (by injection hh with _ h2; exact h2.symm))]
      exact (h.2 j hj).1
  · rw [World.frozen?_setCell]; exact (h.2 j hj).2
theorem Gr.congr {w : World} {g n : Nat} {f f' : Nat → Int} (h : Gr w g n f) (e : ∀ j, j < n → f j = f' j) : Gr w g n f' := ⟨h.1, fun j hj => by rw [← e j hj]; exact h.2 j hj⟩
theorem Gr.drewN {w : World} {g n : Nat} {f : Nat → Int} (h : Gr w g n f) (q : Nat) : Gr (w.drewN q) g n f := h
theorem Gr.below {w w' : World} {g n : Nat} {f : Nat → Int} (h : Gr w g n f) (hb : Below w.heap.size w w') : ∀ j, j < n → w'.cell? ⟨g, j, none⟩ = some (.int .u8 (f j)) := fun j hj => (hb.cell (p := ⟨g, j, none⟩) h.1).trans (h.2 j hj).1
end Go.Proofs.YthcancakkkjpaaaDoor.tlvc
namespace Go.Proofs.YthcancakkkjpaaaDoor.txm
open Go.RowKit Go.Proofs.YthcancakkkjpaaaDoor.tlvc
set_option linter.unusedVariables false
def upI (x : Int) : Int := if 97 ≤ x ∧ x ≤ 122 then x - 32 else x
/-- The bytes of a text, as numbers. -/
def numAt (s : ByteArray) (j : Nat) : Int := ((s.get! j).toNat : Int)
theorem numAt_bd (s : ByteArray) (j : Nat) : 0 ≤ numAt s j ∧ numAt s j ≤ 255 := by
  have := (s.get! j).toNat_lt
  unfold numAt; omega
theorem gr_new (w : World) (s : ByteArray) (cap : Nat) (e : TypeId) : Gr (w.alloc (.cells (bytesRow s cap) e ((bytesRow s cap).size, (bytesRow s cap).size + 1))) w.heap.size s.size (numAt s) := by
  refine ⟨by simp, fun j hj => ?_⟩
  have hb := bytesRow_at s cap j hj
  have hlt : j < (bytesRow s cap).size := by
    rcases Nat.lt_or_ge j (bytesRow s cap).size with h | h
    · exact h
    · rw [Array.getElem?_eq_none h] at hb; cases hb
  constructor
  · rw [World.cell?_alloc_mark]
    have e2 : s.get! j = s.data[j] := by show s.data[j]! = _; rw [getElem!_pos]
    show (bytesRow s cap)[j]? = _
    rw [hb]; unfold numAt; rw [e2]
  · rw [World.frozen?_alloc_mark, decide_eq_false (by omega : ¬ (bytesRow s cap).size ≤ j)]
    rfl
/-- A text of great letters. -/
theorem up_text {s : ByteArray} {ys : List Int} (hl : ys.length = s.size) (h : ∀ j, j < s.size → ys.getD j 0 = upI (numAt s j)) : strOfNums ys = ⟨(s.data.toList.map up8).toArray⟩ := by
  apply ByteArray.ext
  apply Array.ext'
  show (strOfNums ys).data.toList = _
  rw [strOfNums_data]
  apply List.ext_getElem?
  intro j
  have hz : s.data.toList.length = s.size := Array.length_toList
  rw [List.getElem?_map, List.getElem?_map]
  rcases Nat.lt_or_ge j s.size with hj | hj
  · have h1 := h j hj
    rw [List.getD_eq_getElem?_getD, List.getElem?_eq_getElem (by omega)] at h1
    rw [List.getElem?_eq_getElem (by omega), List.getElem?_eq_getElem (by omega)]
    simp only [Option.map_some, Option.some.injEq]
    simp only [Option.getD_some] at h1
    rw [h1]
    have e2 : s.get! j = s.data.toList[j] := by
      rw [Array.getElem_toList]; show s.data[j]! = _; rw [getElem!_pos]
    unfold upI numAt
    rw [e2]
    unfold up8 upN
    split
    · rw [if_pos (by omega)]
      congr 1; omega
    · rw [if_neg (by omega)]
      congr 1
  · rw [List.getElem?_eq_none (by omega), List.getElem?_eq_none (by omega)]
    rfl
/-- A text parted at a blank, with blanks for that one. -/
theorem split_text {b s : ByteArray} (hb : BlankB b) {i : Nat} (hi : i < s.size) (h32 : numAt s i = 32) : prepF (s.extract 0 i ++ b ++ b ++ s.extract i s.size) = prepF s := by
  have h1 : s.extract i s.size = ⟨#[32]⟩ ++ s.extract (i + 1) s.size := by
    apply ByteArray.ext
    apply Array.ext'
    have hz : s.data.toList.length = s.size := Array.length_toList
    rw [ByteArray.data_append, Array.toList_append]
    rw [Lib.ext_list, Lib.ext_list]
    rw [List.drop_eq_getElem_cons (by omega)]
    have e2 : s.data.toList[i]'(by omega) = s.get! i := by
      rw [Array.getElem_toList]; show _ = s.data[i]!; rw [getElem!_pos]
    have e3 : s.get! i = 32 := by
      unfold numAt at h32
      have : (s.get! i).toNat = 32 := by omega
      exact UInt8.toNat.inj this
    rw [e2, e3]
    rfl
  have h2 : s.extract 0 i ++ s.extract i s.size = s := by
    apply ByteArray.ext
    apply Array.ext'
    rw [ByteArray.data_append, Array.toList_append, Lib.ext_list]
    have : (s.extract 0 i).data.toList = s.data.toList.take i := by
      rw [Lib.extract_data]; simp
    rw [this]
    exact List.take_append_drop _ _
  rw [h1, prepF_split hb, ← h1, h2]
end Go.Proofs.YthcancakkkjpaaaDoor.txm
