/- The runes of a text that was written from runes. No run in this text. -/
import Derived.Test.YtomoinohfoalnaaDoorTxAF
namespace Go.Proofs.YtomoinohfoalnaaDoor.txm
open Go.Proofs.YtomoinohfoalnaaDoor.tlvc
set_option linter.unusedVariables false
set_option linter.unusedSimpArgs false
def ValR (r : Nat) : Prop := r < 55296 ∨ (57343 < r ∧ r ≤ 1114111)
theorem dN2 {n b2 b3 r : Nat} (hn : 1 < n) (h : 128 ≤ r) (h2 : r < 2048) : Lib.decodeN n (192 + r / 64) (128 + r % 64) b2 b3 = (r, 2) := by
  have e : (192 + r / 64) % 32 * 64 + (128 + r % 64) % 64 = r := by omega
  unfold Lib.decodeN
  rw [if_neg (by omega), if_pos ⟨by omega, hn, by omega⟩, e, if_pos h]
theorem dN3 {n b3 r : Nat} (hn : 2 < n) (h : 2048 ≤ r) (h2 : r < 65536) (hv : r < 55296 ∨ 57344 ≤ r) : Lib.decodeN n (224 + r / 4096) (128 + r / 64 % 64) (128 + r % 64) b3 = (r, 3) := by
  have e : (224 + r / 4096) % 16 * 4096 + (128 + r / 64 % 64) % 64 * 64 + (128 + r % 64) % 64 = r := by omega
  unfold Lib.decodeN
  rw [if_neg (by omega), if_neg (fun h => by have := h.1; omega), if_pos ⟨by omega, ⟨by omega, by omega⟩, hn, by omega⟩, e, if_pos ⟨h, by omega⟩]
theorem dN4 {n r : Nat} (hn : 3 < n) (h : 65536 ≤ r) (h2 : r ≤ 1114111) : Lib.decodeN n (240 + r / 262144) (128 + r / 4096 % 64) (128 + r / 64 % 64) (128 + r % 64) = (r, 4) := by
  have e : (240 + r / 262144) % 8 * 262144 + (128 + r / 4096 % 64) % 64 * 4096 + (128 + r / 64 % 64) % 64 * 64 + (128 + r % 64) % 64 = r := by omega
  unfold Lib.decodeN
  rw [if_neg (by omega), if_neg (fun h => by have := h.1; omega), if_neg (fun h => by have := h.1; omega), if_pos ⟨by omega, ⟨by omega, by omega⟩, ⟨by omega, by omega⟩, hn, by omega⟩, e, if_pos ⟨h, by omega⟩]
theorem u8n {n : Nat} (h : n < 256) : (UInt8.ofNat n).toNat = n := by rw [UInt8.toNat_ofNat']; exact Nat.mod_eq_of_lt h
theorem dec_enc {r : Nat} (h : ValR r) (m : List UInt8) : decL (Lib.encodeRune r ++ m) = (r, (Lib.encodeRune r).length) := by
  unfold ValR at h
  rw [← encode_rune r]
  by_cases c1 : r < 128
  · rw [Extern.FmtText.enc1 r c1]
    show Lib.decodeN _ (UInt8.ofNat r).toNat _ _ _ = _
    rw [u8n (by omega)]
    exact Lib.decodeN_ascii _ _ _ _ _ c1
  · by_cases c2 : r < 2048
    · rw [Extern.FmtText.enc2 r c1 c2]
      show Lib.decodeN _ (UInt8.ofNat (192 + r / 64)).toNat (UInt8.ofNat (128 + r % 64)).toNat _ _ = _
      rw [u8n (by omega), u8n (by omega)]
      exact dN2 (by simp) (by omega) c2
    · by_cases c3 : r < 65536
      · rw [Extern.FmtText.enc3 r c2 c3 (by omega)]
        show Lib.decodeN _ (UInt8.ofNat (224 + r / 4096)).toNat (UInt8.ofNat (128 + r / 64 % 64)).toNat (UInt8.ofNat (128 + r % 64)).toNat _ = _
        rw [u8n (by omega), u8n (by omega), u8n (by omega)]
        exact dN3 (by simp) (by omega) c3 (by omega)
      · rw [Extern.FmtText.enc4 r c3 (by omega)]
        show Lib.decodeN _ (UInt8.ofNat (240 + r / 262144)).toNat (UInt8.ofNat (128 + r / 4096 % 64)).toNat (UInt8.ofNat (128 + r / 64 % 64)).toNat (UInt8.ofNat (128 + r % 64)).toNat = _
        rw [u8n (by omega), u8n (by omega), u8n (by omega), u8n (by omega)]
        exact dN4 (by simp) (by omega) (by omega)
def ValL (l : List Int) : Prop := ∀ x ∈ l, 0 ≤ x ∧ ValR x.toNat
theorem rL_enc : ∀ (l : List Int) (n : Nat), ValL l → (enc l).length ≤ n → rL n (enc l) = l
  | [], n, _, _ => by cases n <;> simp [enc, rL]
  | r :: l, n, h, hn => by
    obtain ⟨h0, hv⟩ := h r List.mem_cons_self
    obtain ⟨k, rfl⟩ : ∃ k : Nat, r = k := ⟨r.toNat, by omega⟩
    have hv : ValR k := by simpa using hv
    have e : enc ((k : Int) :: l) = Lib.encodeRune k ++ enc l := by simp [enc]
    have hl := encR_len k
    rw [e, List.length_append] at hn
    obtain ⟨n', rfl⟩ : ∃ n', n = n' + 1 := ⟨n - 1, by omega⟩
    rw [e, rL, if_pos (by rw [List.length_append]; omega), dec_enc hv, List.drop_left]
    rw [rL_enc l n' (fun x hx => h x (List.mem_cons_of_mem _ hx)) (by omega)]
theorem runes_enc {l : List Int} (h : ValL l) : runes ⟨(enc l).toArray⟩ = l := by
  unfold runes
  rw [runesF_rL, List.drop_zero]
  exact rL_enc l _ h (by show (enc l).length ≤ (enc l).toArray.size; rw [List.size_toArray]; exact Nat.le_refl _)
theorem decL_val (l : List UInt8) : ValR (decL l).1 := Lib.decodeN_valid _ _ _ _ _ (UInt8.toNat_lt _)
theorem rL_val : ∀ (n : Nat) (l : List UInt8), ValL (rL n l)
  | 0, _ => by intro x hx; simp [rL] at hx
  | n + 1, l => by
    intro x hx
    unfold rL at hx
    split at hx
    · rcases List.mem_cons.1 hx with rfl | hx
      · exact ⟨by omega, by simpa using decL_val l⟩
      · exact rL_val n _ x hx
    · simp at hx
theorem step_val {st : List Int × Bool} {r : Int} (h : ValL st.1) (hr : 0 ≤ r ∧ ValR r.toNat) : ValL (stepP st r).1 := by
  obtain ⟨o, p⟩ := st
  have put : ∀ c : Int, 0 ≤ c ∧ ValR c.toNat → ValL (o ++ (if p = true then [32] else []) ++ [c]) := fun c hc x hx => by
    simp only [List.mem_append, List.mem_singleton] at hx
    rcases hx with (hx | hx) | rfl
    · exact h x hx
    · split at hx
      · simp at hx; subst hx; exact ⟨by omega, .inl (by decide)⟩
      · simp at hx
    · exact hc
  rcases kindw r with hk | hk | hk | hk
  · simpa [stepP, hk] using h
  · simpa [stepP, hk] using h
  · have hg := kind3_great hk
    have := put (r + 32) ⟨by omega, .inl (by unfold Great at hg; omega)⟩
    simpa [stepP, hk] using this
  · have := put r hr
    simpa [stepP, hk] using this
theorem fold_val : ∀ (l : List Int) (st : List Int × Bool), ValL l → ValL st.1 → ValL (l.foldl stepP st).1
  | [], _, _, h => h
  | r :: l, st, hl, h => fold_val l _ (fun x hx => hl x (List.mem_cons_of_mem _ hx)) (step_val h (hl r List.mem_cons_self))
/-- What is prepared is prepared already. -/
theorem prepF_idem (s : ByteArray) : prepF ⟨(prepF s).toArray⟩ = prepF s := by
  have hv : ValL (prepR (runes s)) := by
    unfold prepR
    refine fold_val _ _ ?_ (fun x hx => by cases hx)
    unfold runes
    rw [runesF_rL]
    exact rL_val _ _
  have e : runes ⟨(prepF s).toArray⟩ = prepR (runes s) := runes_enc hv
  show enc (prepR (runes ⟨(prepF s).toArray⟩)) = prepF s
  rw [e, prepR_idem]
  rfl
end Go.Proofs.YtomoinohfoalnaaDoor.txm
