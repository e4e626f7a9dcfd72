/- Bool of both, to any body. -/
import Derived.Test.YtcjjhjflijhijaaIntF
namespace Go.Proofs.Ytcjjhjflijhijaa.intc
open Go.RowKit Go.Proofs.Ytcjjhjflijhijaa.tlvc Go.Proofs.Ytcjjhjflijhijaa.intm
set_option linter.unusedVariables false

theorem toldB_len {xs : List Int} (h : xs.length = 0) : toldB xs = false := by rw [List.eq_nil_of_length_eq_zero h]; rfl
theorem toldB_yes {xs : List Int} (h : 0 < xs.length) (h0 : xs.getD 0 0 = 255) : toldB xs = true := by unfold toldB; rw [h0]; simp [h]
theorem toldB_no {xs : List Int} (h0 : xs.getD 0 0 ≠ 255) : toldB xs = false := by unfold toldB; simp only [Bool.and_eq_false_iff, beq_eq_false_iff_ne, ne_eq]; exact .inr h0
theorem boolF_yes {xs : List Int} (h : xs.length = 1) (h0 : xs.getD 0 0 = 0 ∨ xs.getD 0 0 = 255) : boolF xs = (xs.getD 0 0 == 255, 0) := by
  match xs, h with
  | [b], _ =>
    simp only [List.getD_cons_zero] at h0
    rcases h0 with rfl | rfl <;> decide
theorem boolF_no {xs : List Int} (h : ¬ (xs.length = 1 ∧ (xs.getD 0 0 = 0 ∨ xs.getD 0 0 = 255))) : boolF xs = (false, 23) := by
  unfold boolF
  rw [if_neg]
  intro e
  apply h
  rw [← e]
  refine ⟨rfl, ?_⟩
  cases toldB xs <;> simp [boolB]

theorem bool_as (A : Option Addr) (n c : Nat) (xs : List Int) (w : World) (hb : Bys w A n xs) (p : Nat) (hp : w.cell? ⟨p, 0, none⟩ = some (.func (.func 24) #[] #[])) :
    Calls Try.prog 39 #[.slice A n c, .bool (toldB xs), .int .i64 23, .func (.func 48) #[] #[.pointer (some ⟨p, 0, none⟩)]] w (Told w (.bool (boolF xs).1) (boolF xs).2) := by
  by_cases h : boolB (toldB xs) = xs
  · have e : boolF xs = (toldB xs, 0) := by unfold boolF; rw [if_pos h]
    rw [e]
    exact asBool_yes _ _ _ _ _ _ _ _ hb hp h
  · have e : boolF xs = (false, 23) := by unfold boolF; rw [if_neg h]
    rw [e]
    exact asBool_no _ _ _ _ _ _ _ _ hb hp h

set_option maxHeartbeats 400000 in
theorem bool_any (A : Option Addr) (n c : Nat) (xs : List Int) (w : World) (hb : Bys w A n xs) :
    Calls Try.prog 22 #[.slice A n c] w (Told w (.bool (boolF xs).1) (boolF xs).2) := by
  have hlen := hb.len
  have hcell : ∀ w : World, (w.alloc (.cells #[.func (.func 24) #[] #[]] 38)).cell? ⟨w.heap.size, 0, none⟩ = some (.func (.func 24) #[] #[]) := fun w => by simp
  by_cases h0 : n < 1
  · obtain rfl : n = 0 := by omega
    have ht := Lib.hid (toldB_len hlen)
    have HC := Lib.hid hcell
    clear hlen hcell
    go_enter Try.func22, Try.ntmps22
    go_wp2_with fail
    refine (sureBool_any _).mono ?_
    rintro e w' ⟨rfl, rfl⟩
    go_wp2_with fail
    have h := bool_as _ _ c _ _ (hb.alloc (.cells #[.func (.func 24) #[] #[]] 38)) w.heap.size (HC.out _)
    rw [ht.out] at h
    refine h.mono ?_
    rintro e w' ⟨rfl, hbel⟩
    go_wp2_with fail
    go_ret2
    exact ⟨rfl, ((Below.refl _ _).alloc (Nat.le_refl _) _).trans (hbel.mono (by simp))⟩
  · obtain ⟨b, off, rfl, _, hcl⟩ := hb.2.2 (by omega)
    have hc0 : w.cell? ⟨b, off, none⟩ = some (.int .u8 (xs.getD 0 0)) := by simpa using hcl 0 (by omega)
    have hb0 := hb.fit.getD 0
    obtain ⟨x0, hx0⟩ : ∃ x0, xs.getD 0 0 = x0 := ⟨_, rfl⟩
    have HL := Lib.hid hlen
    have HC := Lib.hid hcell
    by_cases e5 : x0 = 255
    · have ht := Lib.hid (toldB_yes (by omega) (hx0.trans e5))
      rw [hx0] at hc0 hb0
      subst e5
      clear hx0 hlen hcell hcl
      go_enter Try.func22, Try.ntmps22
      go_wp2_with fail
      refine (sureBool_any _).mono ?_
      rintro e w' ⟨rfl, rfl⟩
      go_wp2_with fail
      have h := bool_as _ _ c _ _ (hb.alloc (.cells #[.func (.func 24) #[] #[]] 38)) w.heap.size (HC.out _)
      rw [ht.out] at h
      refine h.mono ?_
      rintro e w' ⟨rfl, hbel⟩
      go_wp2_with fail
      go_ret2
      exact ⟨rfl, ((Below.refl _ _).alloc (Nat.le_refl _) _).trans (hbel.mono (by simp))⟩
    · have ht := Lib.hid (toldB_no (fun h => e5 (hx0.symm.trans h)))
      rw [hx0] at hc0 hb0
      have e5' : (x0 == 255) = false := by simpa using e5
      clear hx0 hlen hcell hcl e5
      go_enter Try.func22, Try.ntmps22
      go_wp2_with fail
      refine (sureBool_any _).mono ?_
      rintro e w' ⟨rfl, rfl⟩
      go_wp2_with fail
      have h := bool_as _ _ c _ _ (hb.alloc (.cells #[.func (.func 24) #[] #[]] 38)) w.heap.size (HC.out _)
      rw [ht.out] at h
      refine h.mono ?_
      rintro e w' ⟨rfl, hbel⟩
      go_wp2_with fail
      go_ret2
      exact ⟨rfl, ((Below.refl _ _).alloc (Nat.le_refl _) _).trans (hbel.mono (by simp))⟩

set_option maxHeartbeats 400000 in
theorem refBool_any (A : Option Addr) (n c : Nat) (xs : List Int) (w : World) (hb : Bys w A n xs) :
    Calls Try.prog 23 #[.slice A n c] w (Same2 w (.bool (boolF xs).1) (boolF xs).2) := by
  have hlen := hb.len
  by_cases h1 : n = 1
  · subst h1
    obtain ⟨b, off, rfl, _, hcl⟩ := hb.2.2 (by omega)
    have hc0 : w.cell? ⟨b, off, none⟩ = some (.int .u8 (xs.getD 0 0)) := by simpa using hcl 0 (by omega)
    by_cases e0 : xs.getD 0 0 = 0
    · rw [boolF_yes hlen (.inl e0), e0]
      rw [e0] at hc0
      clear hlen hcl e0
      go_enter Try.func23, Try.ntmps23
      go_wp2
      go_ret2
      exact ⟨rfl, rfl⟩
    · by_cases e5 : xs.getD 0 0 = 255
      · rw [boolF_yes hlen (.inr e5), e5]
        rw [e5] at hc0
        clear hlen hcl e5 e0
        go_enter Try.func23, Try.ntmps23
        go_wp2
        go_ret2
        exact ⟨rfl, rfl⟩
      · rw [boolF_no (fun h => by rcases h.2 with h | h; exact e0 h; exact e5 h)]
        obtain ⟨x0, hx0⟩ : ∃ x0, xs.getD 0 0 = x0 := ⟨_, rfl⟩
        rw [hx0] at hc0 e0 e5
        have e0' : (x0 != 0) = true := by simpa using e0
        have e5' : (x0 != 255) = true := by simpa using e5
        clear hlen hcl e5 e0 hx0
        go_enter Try.func23, Try.ntmps23
        go_wp2
        go_ret2
        exact ⟨rfl, rfl⟩
  · rw [boolF_no (fun h => h1 (hlen.symm.trans h.1))]
    have h1' : (n != 1) = true := by simpa using h1
    have h1'' : ((n : Int) != 1) = true := by simp only [bne_iff_ne, ne_eq]; omega
    clear hlen h1
    go_enter Try.func23, Try.ntmps23
    go_wp2
    go_ret2
    exact ⟨rfl, rfl⟩
end Go.Proofs.Ytcjjhjflijhijaa.intc
