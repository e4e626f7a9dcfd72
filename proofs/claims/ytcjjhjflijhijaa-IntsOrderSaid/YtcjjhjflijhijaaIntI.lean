/- The document's digits; what is an object (both). -/
import Derived.Test.YtcjjhjflijhijaaIntH
namespace Go.Proofs.Ytcjjhjflijhijaa.intc
open Go.RowKit Go.Proofs.Ytcjjhjflijhijaa.tlvc Go.Proofs.Ytcjjhjflijhijaa.intm
set_option linter.unusedVariables false

theorem and_127 {y : Int} (h0 : 0 ≤ y) (h : y ≤ 268435455) : bits .and .i64 y 127 = y % 128 :=
  bits_mask .i64 62 (by decide) (fun n h₀ h₁ => by rw [IntKind.wrap_i64]; omega) 7 (by decide) y h0 (by omega)
def DigRound (B : Nat) (n m : Int) (v : Value) (w w' : World) : Prop :=
  Arc m ∧ ∃ zs, digs n = intm.hi (m / 128) ++ zs ∧ Fit zs ∧ w'.ownsRow B 5 1 v zs.length (vals zs) ∧ Below B w w'
theorem digRound_len {B : Nat} {n m : Int} {v : Value} {w w' : World} (hn : Arc n) (h : DigRound B n m v w w') : ∃ zs, digs n = intm.hi (m / 128) ++ zs ∧ Fit zs ∧ w'.ownsRow B 5 1 v zs.length (vals zs) ∧ Below B w w' ∧ zs.length ≤ 4 := by
  obtain ⟨_, zs, h1, h2, h3, h4⟩ := h
  refine ⟨zs, h1, h2, h3, h4, ?_⟩
  have := congrArg List.length h1
  rw [List.length_append] at this
  have := digs_length hn
  omega
theorem digRound_step {n m : Int} {v' : Value} {w wr w' : World} {zs : List Int} {k : Nat} {xs : List Value} (hm : Arc m) (hlt : 127 < m) (h1 : digs n = intm.hi (m / 128) ++ zs) (h2 : Fit zs) (h4 : Below w.heap.size w wr)
    (hk : k = 1 + zs.length) (hx : xs = vals ((m / 128 % 128 + 128) :: zs)) {o : Obj}
    (ho : w'.ownsRow w.heap.size 5 1 v' k xs) (hg : (wr.alloc o).grownBy w' (some wr.heap.size)) : DigRound w.heap.size n (m / 128) v' w w' := by
  unfold Arc at hm
  have hk' : k = ((m / 128 % 128 + 128) :: zs).length := by simp; omega
  subst hk' hx
  refine ⟨by unfold Arc; omega, _, ?_, (fit_one (by omega) (by omega)).app h2, ho, ?_⟩
  · rw [h1, hi_step (n := m / 128) (by omega) (by omega)]; simp
  · exact (h4.alloc h4.size _).grown hg (by have := h4.size; simp; omega) fun j hj => by cases hj; exact h4.size
def DigOwn (w : World) (n : Int) (e : Ending) (w' : World) : Prop := ∃ v', e = .returned v' ∧ w'.ownsRow w.heap.size 5 1 v' (digs n).length (vals (digs n)) ∧ Below w.heap.size w w'
theorem digRound_end {n m : Int} {v : Value} {w w' : World} (hlt : ¬ 127 < m) (h : DigRound w.heap.size n m v w w') : DigOwn w n (.returned v) w' := by
  obtain ⟨hm, zs, h1, h2, h3, h4⟩ := h
  unfold Arc at hm
  have e : m / 128 = 0 := by omega
  have e2 : digs n = zs := by rw [h1, e, hi_zero, List.nil_append]
  subst e2
  exact ⟨v, rfl, h3, h4⟩

set_option maxHeartbeats 400000 in
theorem digits_any (n : Int) (w : World) (hn : Arc n) : Calls Try.prog 36 #[.int .i64 n] w (DigOwn w n) := by
  obtain ⟨i0, hi0, hz0, hz1, hz2⟩ := info_parts Try.info5
  have hb : 0 ≤ n ∧ n ≤ 268435455 := hn
  have hstart : DigRound w.heap.size n n (.slice (some ⟨w.heap.size, 0, none⟩) 1 1) w (w.alloc (.cells #[.int .u8 (n % 128)] 5)) :=
    ⟨hn, [n % 128], rfl, fit_one (by omega) (by omega), own_one w _ (Nat.le_refl _), (Below.refl _ _).alloc (Nat.le_refl _) _⟩
  have ha := and_127 hb.1 hb.2
  go_enter Try.func36, Try.ntmps36
  go_wp2
  go_loopw [0, 3] (fun x v wr => ∃ m : Int, x = .int .i64 m ∧ DigRound w.heap.size n m v w wr) (fun x _ _ => (intOf x).toNat)
  case atStart => exact ⟨n, rfl, hstart⟩
  case round =>
    obtain ⟨m, rfl, hr⟩ := hrel
    have hm : 0 ≤ m ∧ m ≤ 268435455 := hr.1
    by_cases hlt : 127 < m
    · obtain ⟨zs, h1, h2, h3, h4, h5⟩ := digRound_len hn hr
      have hma := hr.1
      have H1 := Lib.hid h1
      have hB := h4.size
      obtain ⟨A, c, rfl, hc1, hc2, hA⟩ := own_shape h3
      have hbz : Bys wr A zs.length zs := Bys.own h3 h2
      have ho1 := own_one wr (m / 128 % 128 + 128) hB
      have ha2 := and_127 (y := m / 128) (by omega) (by omega)
      have hor : bits .or .u8 (m / 128 % 128) 128 = m / 128 % 128 + 128 := by rw [or_128 (by omega) (by omega)]; omega
      clear hr hstart h1 hA
      go_wp2_with (at_builtin; refine wpl_app rfl (.tmp 16) (.tmp 17) 22 rfl w.heap.size 5 i0 (.int .u8 0) Try.underlying22 hi0 hz0 hz1 hz2 rfl (.slice (some ⟨wr.heap.size, 0, none⟩) 1 1) 1 (vals [m / 128 % 128 + 128]) rfl ho1 A zs.length c zs rfl (hbz.alloc _) (by omega) (by simp; omega) ?_; intro v' w2 ho2 hg2)
      go_roundw
      case rel => exact ⟨m / 128, rfl, digRound_step hma hlt H1.out h2 h4 rfl rfl ho2 hg2⟩
      case measure => simp [intOf]; omega
    · have he := digRound_end hlt hr
      clear hr hstart
      go_wp2
      go_ret
      exact he

/-! What is an object. -/
theorem objB_len {l : List Int} (h : l.length < 2 ∨ 16 < l.length) : objB l = false := by
  cases e : objB l
  · rfl
  · have := (objB_iff l).1 e; omega
theorem objB_bad {l : List Int} {k : Nat} (hk : k < l.length) (h : l.getD k 0 < 0 ∨ 268435455 < l.getD k 0) : objB l = false := by
  cases e : objB l
  · rfl
  · have := ((objB_iff l).1 e).2.2.1 (l.getD k 0) (by rw [List.getD_eq_getElem?_getD, List.getElem?_eq_getElem hk]; exact List.getElem_mem hk)
    omega
/-- All of the first k are arcs. -/
def Upto (l : List Int) (k : Nat) : Prop := ∀ j, j < k → 0 ≤ l.getD j 0 ∧ l.getD j 0 ≤ 268435455
theorem objB_all {l : List Int} {k : Nat} (hk : k = l.length) (h : Upto l k) (h2 : 2 ≤ l.length) (h16 : l.length ≤ 16) :
    objB l = decide (l.getD 0 0 ≤ 2 ∧ (l.getD 0 0 = 2 ∨ l.getD 1 0 < 40) ∧ 40 * l.getD 0 0 + l.getD 1 0 ≤ 268435455) := by
  have hall : ∀ a ∈ l, 0 ≤ a ∧ a ≤ 268435455 := by
    intro a ha
    obtain ⟨j, hj, rfl⟩ := List.getElem_of_mem ha
    have := h j (by omega)
    rwa [List.getD_eq_getElem?_getD, List.getElem?_eq_getElem hj] at this
  unfold objB
  rw [decide_eq_decide]
  exact ⟨fun h => h.2.2.2, fun h => ⟨h2, h16, hall, h⟩⟩
theorem upto_step {l : List Int} {k : Nat} (h : Upto l k) (h1 : 0 ≤ l.getD k 0 ∧ l.getD k 0 ≤ 268435455) : Upto l (k + 1) := by
  intro j hj
  by_cases e : j = k
  · subst e; exact h1
  · exact h j (by omega)

def QuietB (w : World) (b : Bool) (e : Ending) (w' : World) : Prop := e = .returned (.bool b) ∧ ∃ q, w' = w.drewN q

set_option maxHeartbeats 400000 in
theorem object_any (A : Option Addr) (n c : Nat) (xs : List Int) (w : World) (hb : Ins w A n xs) (hc : n ≤ c) (hm : c ≤ maxLen) :
    Calls Try.prog 33 #[.slice A n c] w (QuietB w (objB xs)) := by
  unfold maxLen at hm
  have hlen := hb.len
  by_cases h2 : n < 2
  · rw [objB_len (by omega)]
    clear hlen
    go_enter Try.func33, Try.ntmps33
    go_wp2
    go_ret
    exact ⟨rfl, 0, rfl⟩
  by_cases h16 : 16 < n
  · rw [objB_len (by omega)]
    clear hlen
    go_enter Try.func33, Try.ntmps33
    go_wp2
    go_ret
    exact ⟨rfl, 0, rfl⟩
  obtain ⟨b, off, rfl, _, hcl⟩ := hb.2.2 (by omega)
  have HL := Lib.hid hlen
  have HC := Lib.hid hcl
  obtain ⟨R, hR⟩ : ∃ R, objB xs = R := ⟨_, rfl⟩
  rw [hR]
  have HR := Lib.hid hR
  clear hlen hcl hR
  go_enter Try.func33, Try.ntmps33
  go_wp2
  go_loop [15] (fun x => ∃ k : Nat, x = .int .i64 k ∧ k ≤ n ∧ Upto xs k) (fun x => n - (intOf x).toNat)
  case atStart => exact ⟨0, rfl, by omega, fun j hj => by omega⟩
  case round =>
    obtain ⟨k, rfl, hk, hup⟩ := hrel
    by_cases hlt : k < n
    · have hcell := HC.out k hlt
      by_cases hok : 0 ≤ xs.getD k 0 ∧ xs.getD k 0 ≤ 268435455
      · have hn := upto_step hup hok
        obtain ⟨x, hx⟩ : ∃ x, xs.getD k 0 = x := ⟨_, rfl⟩
        rw [hx] at hok hcell
        clear hx
        go_wp2
        go_round
        case rel => exact ⟨k + 1, by go_num, by omega, hn⟩
        case measure => simp [intOf]; omega
      · have e : R = false := by rw [← HR.out]; exact objB_bad (by rw [HL.out]; exact hlt) (by omega)
        subst e
        obtain ⟨x, hx⟩ : ∃ x, xs.getD k 0 = x := ⟨_, rfl⟩
        rw [hx] at hok hcell
        clear hx
        by_cases hx0 : x < 0
        · clear hok
          go_wp2
          go_ret
          exact ⟨rfl, 0, rfl⟩
        · have hx1 : 268435455 < x := by omega
          clear hok
          go_wp2
          go_ret
          exact ⟨rfl, 0, rfl⟩
    · have hR := objB_all (by rw [HL.out]; omega) hup (by rw [HL.out]; omega) (by rw [HL.out]; omega)
      rw [HR.out] at hR
      have hu0 := hup 0 (by omega)
      have hu1 := hup 1 (by omega)
      have hc0 : w.cell? ⟨b, off, none⟩ = some (.int .i64 (xs.getD 0 0)) := by simpa using HC.out 0 (by omega)
      have hc1 := HC.out 1 (by omega)
      obtain ⟨x0, hx0⟩ : ∃ x0, xs.getD 0 0 = x0 := ⟨_, rfl⟩
      obtain ⟨x1, hx1⟩ : ∃ x1, xs.getD 1 0 = x1 := ⟨_, rfl⟩
      rw [hx0, hx1] at hR
      rw [hx0] at hc0 hu0
      rw [hx1] at hc1 hu1
      clear hx0 hx1 hup
      by_cases h0 : 2 < x0
      · have e : R = false := by rw [hR]; simp; omega
        subst e
        clear hR
        go_wp2
        go_ret
        exact ⟨rfl, 0, rfl⟩
      · by_cases h1 : x0 < 2
        · by_cases h40 : 40 ≤ x1
          · have e : R = false := by rw [hR]; simp; omega
            subst e
            clear hR
            go_wp2
            go_ret
            exact ⟨rfl, 0, rfl⟩
          · have e : R = decide (40 * x0 + x1 ≤ 268435455) := by rw [hR, decide_eq_decide]; omega
            subst e
            clear hR
            go_wp2
            go_quiet (fail)
            go_wp2
            go_ret
            exact ⟨rfl, _, rfl⟩
        · have e : R = decide (40 * x0 + x1 ≤ 268435455) := by rw [hR, decide_eq_decide]; omega
          subst e
          clear hR
          go_wp2
          go_quiet (fail)
          go_wp2
          go_ret
          exact ⟨rfl, _, rfl⟩
end Go.Proofs.Ytcjjhjflijhijaa.intc
