/- Values one behind the other: plain facts on their bytes. -/
import Derived.Test.YtpfdebelpfcofaaTlvP
import Derived.Test.YtpfdebelpfcofaaTlvO
namespace Go.Proofs.Ytpfdebelpfcofaa.tlvc
open Go.RowKit
set_option linter.unusedVariables false

/-- The bytes of the first k bodies' values, one behind the other. -/
def catN (t : Int) (xss : List (List Int)) (k : Nat) : List Int := ((xss.take k).map (putBytes t)).flatten
theorem catN_zero (t : Int) (xss : List (List Int)) : catN t xss 0 = [] := rfl
theorem catN_succ (t : Int) (xss : List (List Int)) (k : Nat) (h : k < xss.length) : catN t xss (k + 1) = catN t xss k ++ putBytes t (xss.getD k []) := by
  unfold catN
  rw [List.take_succ_eq_append_getElem h, List.map_append, List.flatten_append]
  simp [List.getD_eq_getElem?_getD, List.getElem?_eq_getElem h]
theorem catN_split (t : Int) (xss : List (List Int)) (k : Nat) (h : k < xss.length) : ∃ zs, catN t xss xss.length = catN t xss k ++ (putBytes t (xss.getD k []) ++ zs) := by
  refine ⟨((xss.drop (k + 1)).map (putBytes t)).flatten, ?_⟩
  rw [← List.append_assoc, ← catN_succ t xss k h]
  unfold catN
  rw [List.take_length, ← List.flatten_append, ← List.map_append, List.take_append_drop]
theorem catN_fit (t : Int) (xss : List (List Int)) (ht : 0 ≤ t ∧ t ≤ 255) (k : Nat) (h : ∀ j, j < k → Fit (xss.getD j []) ∧ (xss.getD j []).length ≤ 65535) (hk : k ≤ xss.length) : Fit (catN t xss k) := by
  induction k with
  | zero => rw [catN_zero]; intro x hx; simp at hx
  | succ k ih =>
    rw [catN_succ t xss k (by omega)]
    have hj := h k (by omega)
    refine (ih (fun j hj => h j (by omega)) (by omega)).app ?_
    unfold putBytes
    refine Fit.app (Fit.app ?_ (hdr_fit _ (by omega) (by omega))) hj.1
    intro x hx; simp at hx; omega

theorem putF_cases (t : Int) (xs : List Int) : ((putF t xs).1 = [] ∧ ((putF t xs).2 == 0) = false) ∨ ((putF t xs).1 = putBytes t xs ∧ (putF t xs).2 = 0 ∧ endlessB t = false ∧ xs.length ≤ 65535) := by
  unfold putF
  by_cases h : endlessB t = true
  · rw [if_pos h]; exact .inl ⟨rfl, rfl⟩
  · rw [if_neg h]
    by_cases hn : 65535 < xs.length
    · rw [if_pos hn]; exact .inl ⟨rfl, rfl⟩
    · rw [if_neg hn]; exact .inr ⟨rfl, rfl, by simpa using h, by omega⟩

theorem putBytes_bound (t : Int) (xs : List Int) (h : xs.length ≤ 65535) : 2 ≤ (putBytes t xs).length ∧ (putBytes t xs).length ≤ 65539 := by
  have := hdr_n xs.length h
  rw [put_len]
  omega

theorem str_cut {w : World} {g N c F T : Nat} {ys zs : List Int} (h : Bys w (some ⟨g, 0, none⟩) N ys) (hF : F ≤ T) (hT : T ≤ N) (hc : N ≤ c) (hz : (ys.drop F).take (T - F) = zs) :
    ∀ q, (convert 22 9 (.slice (if c = F then some ⟨g, 0, none⟩ else some ⟨g, F, none⟩) (T - F) (c - F))).run Try.prog (w.drewN q) = .ok (.string (strOfNums zs)) (w.drewN q) := by
  have h1 := (h.cut (k := F) (cap := c) (by omega) hc).upto (k := T - F) (by omega)
  rw [hz] at h1
  have e : (Option.map (fun x : Addr => x.add F) (some (⟨g, 0, none⟩ : Addr))) = some ⟨g, F, none⟩ := by simp [Addr.add_lit]
  rw [e] at h1
  exact str_all h1 (c - F)

/-- What Head tells of the value at place j of a row. -/
theorem row_head (t : Int) (xss : List (List Int)) (j : Nat) (hj : j < xss.length) (ht : endlessB t = false) (hn : (xss.getD j []).length ≤ 65535) :
    ∃ F T : Nat, (catN t xss j).length ≤ F ∧ F ≤ T ∧ T ≤ (catN t xss xss.length).length ∧ T = (catN t xss (j + 1)).length ∧
      headE (catN t xss j).length (catN t xss xss.length) = .returned (.tuple #[.int .u8 t, .int .i64 F, .int .i64 T, .int .i64 0]) ∧ ((catN t xss xss.length).drop F).take (T - F) = xss.getD j [] := by
  obtain ⟨zs, hz⟩ := catN_split t xss j hj
  have hl := put_len t (xss.getD j [])
  refine ⟨(catN t xss j).length + (1 + (hdr (xss.getD j []).length).length), (catN t xss j).length + (1 + (hdr (xss.getD j []).length).length) + (xss.getD j []).length, by omega, by omega, ?_, ?_, ?_, ?_⟩
  · rw [hz, List.length_append, List.length_append, hl]; omega
  · rw [catN_succ t xss j hj, List.length_append, hl]; omega
  · rw [hz, headE_at, headF_put t _ zs ht hn]
    simp [headR, Yes]
  · rw [hz, ← List.drop_drop, List.drop_left, Nat.add_sub_cancel_left]
    have e : putBytes t (xss.getD j []) ++ zs = ([t] ++ hdr (xss.getD j []).length) ++ (xss.getD j [] ++ zs) := by simp [putBytes]
    rw [e, List.drop_left' (by simp; omega), List.take_left]

/-- What Head tells of a value with bytes ahead and behind. -/
theorem back_head (t : Int) (xs ws zs : List Int) (ht : endlessB t = false) (hn : xs.length ≤ 65535) :
    ∃ F T : Nat, ws.length ≤ F ∧ T = F + xs.length ∧ T = ws.length + (putBytes t xs).length ∧
      headE ws.length (ws ++ (putBytes t xs ++ zs)) = .returned (.tuple #[.int .u8 t, .int .i64 F, .int .i64 T, .int .i64 0]) ∧ ((ws ++ (putBytes t xs ++ zs)).drop F).take (T - F) = xs := by
  have hl := put_len t xs
  refine ⟨ws.length + (1 + (hdr xs.length).length), ws.length + (1 + (hdr xs.length).length) + xs.length, by omega, rfl, by rw [hl]; omega, ?_, ?_⟩
  · rw [headE_at, headF_put t _ zs ht hn]
    simp [headR, Yes]
  · rw [← List.drop_drop, List.drop_left, Nat.add_sub_cancel_left]
    have e : putBytes t xs ++ zs = ([t] ++ hdr xs.length) ++ (xs ++ zs) := by simp [putBytes]
    rw [e, List.drop_left' (by simp; omega), List.take_left]

/-- Head at the beginning: an error, or what Put would write. -/
theorem back_two (l : List Int) (hf : Fit l) : (∃ n : Int, headE 0 l = No n ∧ (n != 0) = true) ∨
    ∃ (T : Int) (F Z : Nat), headE 0 l = .returned (.tuple #[.int .u8 T, .int .i64 F, .int .i64 Z, .int .i64 0]) ∧ endlessB T = false ∧ (0 ≤ T ∧ T ≤ 255) ∧ 2 ≤ F ∧ F ≤ Z ∧ Z ≤ l.length ∧ Z - F ≤ 65535 ∧ putBytes T ((l.drop F).take (Z - F)) = l.take Z := by
  rw [headE_zero]
  obtain ⟨⟨e, T, h, s⟩, hr⟩ : ∃ r, headF l = r := ⟨_, rfl⟩
  rw [hr]
  by_cases he : e = 0
  · subst he
    obtain ⟨h1, h2, F, n, rfl, rfl, h3, h4, h5, h6⟩ := put_head l T h s hf hr
    refine .inr ⟨T, F, F + n, ?_, h1, h2, h3, by omega, h5, by omega, ?_⟩
    · simp [headR, Yes]
    · rw [Nat.add_sub_cancel_left]; exact h6
  · exact .inl ⟨e, by simp [headR, he], by simp [he]⟩
end Go.Proofs.Ytpfdebelpfcofaa.tlvc
