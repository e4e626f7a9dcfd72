/- The document's own Int; Bool of both. -/
import Derived.Test.YtcjjhjflijhijaaIntE
namespace Go.Proofs.Ytcjjhjflijhijaa.intc
open Go.RowKit Go.Proofs.Ytcjjhjflijhijaa.tlvc Go.Proofs.Ytcjjhjflijhijaa.intm
set_option linter.unusedVariables false

theorem intF_len {xs : List Int} (hf : Fit xs) (h : xs.length = 0 ∨ 8 < xs.length) : intF xs = (0, 21) := by
  unfold intF
  rw [if_neg]
  intro e
  have h1 := congrArg List.length e
  have h2 := width_bd (dec (xs.take 8))
  rw [putI_length] at h1
  omega
theorem intF_yes {xs : List Int} (hf : Fit xs) (h1 : 1 ≤ xs.length) (h8 : xs.length ≤ 8) (h : Least xs) : intF xs = (dec xs, 0) := by
  unfold intF
  rw [List.take_of_length_le h8, if_pos (putI_dec h1 h8 hf h)]
theorem intF_no {xs : List Int} (hf : Fit xs) (h1 : 1 ≤ xs.length) (h8 : xs.length ≤ 8) (h : ¬ Least xs) : intF xs = (0, 21) := by
  unfold intF
  rw [List.take_of_length_le h8, if_neg]
  intro e
  have := putI_least (dec_i64 h8 hf)
  rw [e] at this
  exact h this

def Same2 (w : World) (v : Value) (q : Int) (e : Ending) (w' : World) : Prop := e = .returned (.tuple #[v, .int .i64 q]) ∧ w = w'
theorem least_one {xs : List Int} (h : xs.length = 1) : Least xs := by
  match xs, h with
  | [b], _ => trivial
theorem least_two {xs : List Int} (h : 2 ≤ xs.length) : Least xs ↔ ¬ ((xs.getD 0 0 = 0 ∧ xs.getD 1 0 < 128) ∨ (xs.getD 0 0 = 255 ∧ 128 ≤ xs.getD 1 0)) := by
  match xs, h with
  | b :: c :: r, _ => simp [Least]

set_option maxHeartbeats 1000000 in
theorem refInt_any (A : Option Addr) (n c : Nat) (xs : List Int) (w : World) (hb : Bys w A n xs) (hc : n ≤ c) (hm : c ≤ maxLen) :
    Calls Try.prog 14 #[.slice A n c] w (Same2 w (.int .i64 (intF xs).1) (intF xs).2) := by
  unfold maxLen at hm
  have hfit := bys_fits hb
  have hlen := hb.len
  by_cases h0 : n < 1
  · rw [intF_len hb.fit (by omega)]
    clear hlen
    go_enter Try.func14, Try.ntmps14
    go_wp2
    go_ret2
    exact ⟨rfl, rfl⟩
  by_cases h8 : 8 < n
  · rw [intF_len hb.fit (by omega)]
    clear hlen
    go_enter Try.func14, Try.ntmps14
    go_wp2
    go_ret2
    exact ⟨rfl, rfl⟩
  obtain ⟨b, off, rfl, _, hcl⟩ := hb.2.2 (by omega)
  have hc0 : w.cell? ⟨b, off, none⟩ = some (.int .u8 (xs.getD 0 0)) := by simpa using hcl 0 (by omega)
  have hb0 := hb.fit.getD 0
  have hd1 := dec_take_one (ys := xs) (by omega)
  obtain ⟨R, hR⟩ : ∃ R, intF xs = R := ⟨_, rfl⟩
  have HR := Lib.hid hR
  rw [hR]
  clear hR
  obtain ⟨x0, hx0⟩ : ∃ x0, xs.getD 0 0 = x0 := ⟨_, rfl⟩
  rw [hx0] at hc0 hb0 hd1
  have HX0 := Lib.hid hx0
  have HL := Lib.hid hlen
  have HD1 := Lib.hid hd1
  have HC := Lib.hid hcl
  clear hx0 hlen hd1 hcl
  go_enter Try.func14, Try.ntmps14
  go_wp2
  go_loop [4, 5] (fun x y => ∃ k : Nat, y = .int .i64 k ∧ 1 ≤ k ∧ k ≤ n ∧ x = .int .i64 (dec (xs.take k))) (fun _ y => 9 - (intOf y).toNat)
  case atStart => exact ⟨1, rfl, by omega, by omega, by rw [HD1.out, s8_wrap hb0]⟩
  case round =>
    obtain ⟨k, rfl, hk1, hk, rfl⟩ := hrel
    by_cases hlt : k < n
    · have hc1 := HC.out k hlt
      obtain ⟨x, hx⟩ : ∃ x, xs.getD k 0 = x := ⟨_, rfl⟩
      have hxb := hb.fit.getD k
      rw [hx] at hc1 hxb
      have h1 := dec_take_succ (ys := xs) (k := k) (by rw [HL.out]; exact hlt) (by omega)
      have h2 := dec_room (ys := xs) (k := k) hfit (by omega)
      rw [hx] at h1
      have h3 := or_i64 8 (by decide) (dec (xs.take k) * 256) x (by unfold I64; omega) (by simp) (by omega) (by omega)
      have H1 := Lib.hid h1
      clear h1 hx
      go_wp2
      go_round
      case rel => exact ⟨k + 1, by go_num, by omega, by omega, by rw [H1.out]⟩
      case measure => simp [intOf]; omega
    · have : dec (xs.take k) = dec xs := by rw [List.take_of_length_le (by rw [HL.out]; omega)]
      rw [this]
      clear this
      by_cases hn1 : n = 1
      · have e : R = (dec xs, 0) := by rw [← HR.out]; exact intF_yes hfit (by rw [HL.out]; omega) (by rw [HL.out]; omega) (least_one (by rw [HL.out]; omega))
        have hn2 : ¬ 1 < n := by omega
        subst e
        clear hn1
        go_wp2
        go_ret2
        exact ⟨rfl, rfl⟩
      · have hc1 := HC.out 1 (by omega)
        have hb1 := hb.fit.getD 1
        obtain ⟨x1, hx1⟩ : ∃ x1, xs.getD 1 0 = x1 := ⟨_, rfl⟩
        rw [hx1] at hc1 hb1
        have hL := least_two (xs := xs) (by rw [HL.out]; omega)
        rw [hx1, HX0.out] at hL
        have hn2 : 1 < n := by omega
        clear hx1
        by_cases hno : (x0 = 0 ∧ x1 < 128) ∨ (x0 = 255 ∧ 128 ≤ x1)
        · have e : R = (0, 21) := by rw [← HR.out]; exact intF_no hfit (by rw [HL.out]; omega) (by rw [HL.out]; omega) (by rw [hL]; exact fun h => h hno)
          subst e
          clear hL
          rcases hno with ⟨e, h⟩ | ⟨e, h⟩
          · subst e
            go_wp2
            go_ret2
            exact ⟨rfl, rfl⟩
          · subst e
            go_wp2
            go_ret2
            exact ⟨rfl, rfl⟩
        · have e : R = (dec xs, 0) := by rw [← HR.out]; exact intF_yes hfit (by rw [HL.out]; omega) (by rw [HL.out]; omega) (by rw [hL]; exact hno)
          subst e
          clear hL
          by_cases e0 : x0 = 0
          · have h1 : ¬ x1 < 128 := by omega
            subst e0
            clear hno
            go_wp2
            go_ret2
            exact ⟨rfl, rfl⟩
          · have e0' : (x0 == 0) = false := by simpa using e0
            by_cases e5 : x0 = 255
            · have h1 : ¬ 128 ≤ x1 := by omega
              subst e5
              clear hno e0 e0'
              go_wp2
              go_ret2
              exact ⟨rfl, rfl⟩
            · have e5' : (x0 == 255) = false := by simpa using e5
              clear hno e0 e5
              go_wp2
              go_ret2
              exact ⟨rfl, rfl⟩
end Go.Proofs.Ytcjjhjflijhijaa.intc
