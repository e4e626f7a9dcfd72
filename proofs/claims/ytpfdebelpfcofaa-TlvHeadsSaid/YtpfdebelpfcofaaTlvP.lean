/- Plain facts: what Head's function tells of Put's bytes, whole, cut, and with more behind. -/
import Derived.Test.YtpfdebelpfcofaaTlvM
namespace Go.Proofs.Ytpfdebelpfcofaa.tlvc
open Go.RowKit
set_option linter.unusedVariables false

theorem headE_zero (zs : List Int) : headE 0 zs = headR 0 (headF zs) := by
  rw [headE, if_neg (by omega)]; rfl
theorem headE_at (ws zs : List Int) : headE ws.length (ws ++ zs) = headR ws.length (headF zs) := by
  rw [headE, if_neg (by rw [List.length_append]; omega), Int.toNat_natCast, List.drop_left]

theorem put_shape (t : Int) (xs : List Int) (hn : xs.length ≤ 65535) :
    (putBytes t xs = t :: (xs.length : Int) :: xs ∧ xs.length < 128) ∨ (putBytes t xs = t :: 129 :: (xs.length : Int) :: xs ∧ 128 ≤ xs.length ∧ xs.length ≤ 255) ∨
    (putBytes t xs = t :: 130 :: ((xs.length : Int) / 256) :: ((xs.length : Int) % 256) :: xs ∧ 256 ≤ xs.length) := by
  unfold putBytes hdr
  by_cases h1 : (xs.length : Int) < 128
  · rw [if_pos h1]; exact .inl ⟨rfl, by omega⟩
  · rw [if_neg h1]
    by_cases h2 : (xs.length : Int) ≤ 255
    · rw [if_pos h2]; exact .inr (.inl ⟨rfl, by omega, by omega⟩)
    · rw [if_neg h2]; exact .inr (.inr ⟨rfl, by omega⟩)

theorem headF_cut (t : Int) (xs : List Int) (m : Nat) (h : endlessB t = false) (hn : xs.length ≤ 65535) (hm : m < (putBytes t xs).length) : headF ((putBytes t xs).take m) = (12, 0, 0, 0) := by
  have h' : ¬ endlessB t = true := by simp [h]
  rcases put_shape t xs hn with ⟨e, h1⟩ | ⟨e, h1, h2⟩ | ⟨e, h1⟩
  · rw [e] at hm ⊢
    simp only [List.length_cons] at hm
    match m, hm with
    | 0, _ => rfl
    | 1, _ => rw [List.take_succ_cons, List.take_zero, headF_one, if_neg h']
    | k + 2, hm => rw [List.take_succ_cons, List.take_succ_cons, headF_s t _ _ h' (by omega), if_pos (by rw [List.length_take]; omega)]
  · rw [e] at hm ⊢
    simp only [List.length_cons] at hm
    match m, hm with
    | 0, _ => rfl
    | 1, _ => rw [List.take_succ_cons, List.take_zero, headF_one, if_neg h']
    | 2, _ => rw [List.take_succ_cons, List.take_succ_cons, List.take_zero, headF_m0 t h']
    | k + 3, hm => rw [List.take_succ_cons, List.take_succ_cons, List.take_succ_cons, headF_m t _ _ h', if_neg (by omega), if_pos (by rw [List.length_take]; omega)]
  · rw [e] at hm ⊢
    simp only [List.length_cons] at hm
    match m, hm with
    | 0, _ => rfl
    | 1, _ => rw [List.take_succ_cons, List.take_zero, headF_one, if_neg h']
    | 2, _ => rw [List.take_succ_cons, List.take_succ_cons, List.take_zero, headF_l0 t h']
    | 3, _ => rw [List.take_succ_cons, List.take_succ_cons, List.take_succ_cons, List.take_zero, headF_l1 t _ h']
    | k + 4, hm => rw [List.take_succ_cons, List.take_succ_cons, List.take_succ_cons, List.take_succ_cons, headF_l t _ _ _ h', if_neg (by omega), if_pos (by rw [List.length_take]; omega)]

/-- Head of Put, whatever stands behind. -/
theorem headF_put (t : Int) (xs zs : List Int) (h : endlessB t = false) (hn : xs.length ≤ 65535) : headF (putBytes t xs ++ zs) = (0, t, ((1 + (hdr xs.length).length : Nat) : Int), (xs.length : Int)) := by
  have h' : ¬ endlessB t = true := by simp [h]
  have hl := put_len t xs
  rcases put_shape t xs hn with ⟨e, h1⟩ | ⟨e, h1, h2⟩ | ⟨e, h1⟩
  · rw [e] at hl ⊢
    simp only [List.length_cons] at hl
    rw [List.cons_append, List.cons_append, headF_s t _ _ h' (by omega), if_neg (by rw [List.length_append]; omega)]
    simp only [Prod.mk.injEq, true_and, and_true]; omega
  · rw [e] at hl ⊢
    simp only [List.length_cons] at hl
    rw [List.cons_append, List.cons_append, List.cons_append, headF_m t _ _ h', if_neg (by omega), if_neg (by rw [List.length_append]; omega)]
    simp only [Prod.mk.injEq, true_and, and_true]; omega
  · rw [e] at hl ⊢
    simp only [List.length_cons] at hl
    rw [List.cons_append, List.cons_append, List.cons_append, List.cons_append, headF_l t _ _ _ h', if_neg (by omega), if_neg (by rw [List.length_append]; omega)]
    simp only [Prod.mk.injEq, true_and]; omega

/-- Put of what Head tells. -/
theorem put_head (l : List Int) (T h s : Int) (hf : Fit l) (he : headF l = (0, T, h, s)) :
    endlessB T = false ∧ (0 ≤ T ∧ T ≤ 255) ∧ ∃ hn sn : Nat, h = hn ∧ s = sn ∧ 2 ≤ hn ∧ sn ≤ 65535 ∧ hn + sn ≤ l.length ∧ putBytes T ((l.drop hn).take sn) = l.take (hn + sn) := by
  match l, hf, he with
  | [], _, he => simp [headF] at he
  | [t], _, he => rw [headF_one] at he; split at he <;> simp at he
  | t :: f :: r, hf, he =>
    have htf := hf t (by simp)
    have hff := hf f (by simp)
    by_cases ht : endlessB t = true
    · rw [headF_tag t f r ht] at he; simp at he
    · have ht' : endlessB t = false := by simpa using ht
      by_cases hx : f = 128 ∨ 130 < f
      · rw [headF_len t f r ht hx] at he; simp at he
      · by_cases hs : f < 128
        · rw [headF_s t f r ht hs] at he
          split at he
          · simp at he
          · rename_i hlen
            simp only [Prod.mk.injEq, true_and] at he
            obtain ⟨rfl, rfl, rfl⟩ := he
            obtain ⟨n, rfl⟩ := Int.eq_ofNat_of_zero_le hff.1
            refine ⟨ht', htf, 2, n, rfl, rfl, by omega, by omega, by simp only [List.length_cons]; omega, ?_⟩
            have e1 : ((t :: (n : Int) :: r).drop 2).take n = r.take n := rfl
            have e2 : (t :: (n : Int) :: r).take (2 + n) = t :: (n : Int) :: r.take n := by rw [Nat.add_comm]; rfl
            have e3 : (r.take n).length = n := by rw [List.length_take]; omega
            rw [e1, e2, putBytes, e3, hdr, if_pos hs]; rfl
        · by_cases h9 : f = 129
          · subst h9
            rcases r with _ | ⟨x, r2⟩
            · rw [headF_m0 t ht] at he; simp at he
            · have hxf := hf x (by simp)
              rw [headF_m t x r2 ht] at he
              split at he
              · simp at he
              · rename_i h1
                split at he
                · simp at he
                · rename_i hlen
                  simp only [Prod.mk.injEq, true_and] at he
                  obtain ⟨rfl, rfl, rfl⟩ := he
                  obtain ⟨n, rfl⟩ := Int.eq_ofNat_of_zero_le hxf.1
                  refine ⟨ht', htf, 3, n, rfl, rfl, by omega, by omega, by simp only [List.length_cons]; omega, ?_⟩
                  have e1 : ((t :: 129 :: (n : Int) :: r2).drop 3).take n = r2.take n := rfl
                  have e2 : (t :: 129 :: (n : Int) :: r2).take (3 + n) = t :: 129 :: (n : Int) :: r2.take n := by rw [Nat.add_comm]; rfl
                  have e3 : (r2.take n).length = n := by rw [List.length_take]; omega
                  rw [e1, e2, putBytes, e3, hdr, if_neg h1, if_pos (by omega)]; rfl
          · obtain rfl : f = 130 := by omega
            rcases r with _ | ⟨x, _ | ⟨y, r2⟩⟩
            · rw [headF_l0 t ht] at he; simp at he
            · rw [headF_l1 t x ht] at he; simp at he
            · have hxf := hf x (by simp)
              have hyf := hf y (by simp)
              rw [headF_l t x y r2 ht] at he
              split at he
              · simp at he
              · rename_i h1
                split at he
                · simp at he
                · rename_i hlen
                  simp only [Prod.mk.injEq, true_and] at he
                  obtain ⟨rfl, rfl, rfl⟩ := he
                  obtain ⟨n, hn⟩ := Int.eq_ofNat_of_zero_le (show 0 ≤ x * 256 + y by omega)
                  refine ⟨ht', htf, 4, n, rfl, hn, by omega, by omega, by simp only [List.length_cons]; omega, ?_⟩
                  have e1 : ((t :: 130 :: x :: y :: r2).drop 4).take n = r2.take n := rfl
                  have e2 : (t :: 130 :: x :: y :: r2).take (4 + n) = t :: 130 :: x :: y :: r2.take n := by rw [Nat.add_comm]; rfl
                  have e3 : (r2.take n).length = n := by rw [List.length_take]; omega
                  have e4 : (n : Int) / 256 = x := by omega
                  have e5 : (n : Int) % 256 = y := by omega
                  rw [e1, e2, putBytes, e3, hdr, if_neg (by omega), if_neg (by omega), e4, e5]; rfl
end Go.Proofs.Ytpfdebelpfcofaa.tlvc
