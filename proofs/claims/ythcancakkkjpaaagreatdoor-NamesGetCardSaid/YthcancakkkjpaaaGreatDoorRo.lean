/- Names held against one another: the program's Same and Under. -/
import Derived.Test.YthcancakkkjpaaaGreatDoorRn
import Derived.Lib.QuietBelow
import Derived.BigQuiet
namespace Go.Proofs.YthcancakkkjpaaaGreatDoor.nmc
open Go.RowKit Go.Proofs.YthcancakkkjpaaaGreatDoor.tlvc Go.Proofs.YthcancakkkjpaaaGreatDoor.tlvd Go.Proofs.YthcancakkkjpaaaGreatDoor.ndc Go.Proofs.YthcancakkkjpaaaGreatDoor.txc Go.Proofs.YthcancakkkjpaaaGreatDoor.txm Go.Proofs.YthcancakkkjpaaaGreatDoor.intc Go.Proofs.YthcancakkkjpaaaGreatDoor.intm
set_option linter.unusedVariables false
set_option linter.unusedSimpArgs false
/-- Alike, one by one. -/
def eqP {α : Type} (p : α → α → Bool) : List α → List α → Bool
  | [], [] => true
  | x :: xs, y :: ys => p x y && eqP p xs ys
  | _, _ => false
section
variable {α : Type} {p : α → α → Bool}
theorem eqP_len : ∀ {a b : List α}, eqP p a b = true → a.length = b.length
  | [], [], _ => rfl
  | [], _ :: _, h => by simp [eqP] at h
  | _ :: _, [], h => by simp [eqP] at h
  | x :: xs, y :: ys, h => by
    unfold eqP at h
    rw [Bool.and_eq_true] at h
    simp [eqP_len h.2]
theorem eqP_no {a b : List α} (h : a.length ≠ b.length) : eqP p a b = false := by
  cases e : eqP p a b
  · rfl
  · exact absurd (eqP_len e) h
theorem eqP_step {a b : List α} {i : Nat} {R : Bool} (h1 : i < a.length) (h2 : i < b.length) (h : eqP p (a.drop i) (b.drop i) = R) : (p a[i] b[i] = false → R = false) ∧ (p a[i] b[i] = true → eqP p (a.drop (i + 1)) (b.drop (i + 1)) = R) := by
  rw [List.drop_eq_getElem_cons h1, List.drop_eq_getElem_cons h2] at h
  unfold eqP at h
  constructor
  · intro e; rw [← h, e]; rfl
  · intro e; rw [← h, e]; rfl
theorem eqP_end {a b : List α} {i : Nat} {R : Bool} (h1 : ¬ i < a.length) (h2 : ¬ i < b.length) (h : eqP p (a.drop i) (b.drop i) = R) : R = true := by
  rw [← h, List.drop_eq_nil_of_le (by omega), List.drop_eq_nil_of_le (by omega)]
  rfl
theorem eqP_iff : ∀ {a b : List α}, eqP p a b = true ↔ a.length = b.length ∧ ∀ (i : Nat) (h1 : i < a.length) (h2 : i < b.length), p a[i] b[i] = true
  | [], [] => by simp [eqP]
  | [], _ :: _ => by simp [eqP]
  | _ :: _, [] => by simp [eqP]
  | x :: us, y :: vs => by
    unfold eqP
    rw [Bool.and_eq_true, eqP_iff (a := us) (b := vs)]
    constructor
    · rintro ⟨h0, hl, h⟩
      refine ⟨by simp [hl], fun i h1 h2 => ?_⟩
      cases i with
      | zero => exact h0
      | succ i => exact h i (by simpa using h1) (by simpa using h2)
    · rintro ⟨hl, h⟩
      exact ⟨h 0 (by simp) (by simp), by simpa using hl, fun i h1 h2 => h (i + 1) (by simpa using h1) (by simpa using h2)⟩
end
/-- Two parts of names at one place, as cells. -/
theorem at_cells {B : Nat → Prop} {w wr : World} {A : Option Addr} {xs : List At} (hL : Lst atE B w A xs) (hb : Below w.heap.size w wr) (i : Nat) (hi : i < xs.length) : ∃ g off A0 l0 k0 s, A = some ⟨g, off, none⟩ ∧ xs[i].text = s ∧ wr.cell? ⟨g, off + i * 2, none⟩ = some (.slice A0 l0 k0) ∧ wr.cell? ⟨g, off + i * 2 + 1, none⟩ = some (.string s) ∧
    l0 ≤ k0 ∧ k0 ≤ maxLen ∧ Ins wr A0 l0 xs[i].oid ∧ s.size ≤ maxLen ∧ atE.hold B wr xs[i] [.slice A0 l0 k0, .string s] := by
  obtain ⟨g, off, cs, rfl, hg, hcell, hold⟩ := (hL.below hb).at i hi
  have hh := hold
  obtain ⟨c0, c1, rfl, A0, l0, k0, rfl, rfl, hx1, hx2, hx3, hx4, hx5⟩ := hold
  have e0 := hcell 0 _ rfl
  have e1 := hcell 1 _ rfl
  rw [show atE.sz = 2 from rfl] at e0 e1
  rw [Nat.add_zero] at e0
  exact ⟨g, off, A0, l0, k0, _, rfl, rfl, e0, e1, hx1, hx2, hx3, hx5, hh⟩
set_option maxRecDepth 100000 in
set_option maxHeartbeats 8000000 in
theorem eqFuncA_any (B C : Nat → Prop) (A A' : Option Addr) (n c m d : Nat) (xs ys : List At) (w : World) (hl : xs.length = n) (hl2 : ys.length = m) (hL : Lst atE B w A xs) (hL2 : Lst atE C w A' ys) (hc : n ≤ c) (hm : c ≤ maxLen) (hc2 : m ≤ d) (hm2 : d ≤ maxLen)
    (za : ∀ a ∈ xs, a.text.size ≤ 8796093022208) (zb : ∀ a ∈ ys, a.text.size ≤ 8796093022208) :
    Calls Tryz.prog 37 #[.slice A n c, .slice A' m d, .func (.func 38) #[] #[]] w fun e w' => e = .returned (.bool (eqP eqA xs ys)) ∧ Below w.heap.size w w' := by
  have h9 : c ≤ 9223372036854775807 := by unfold maxLen at hm; omega
  have h92 : d ≤ 9223372036854775807 := by unfold maxLen at hm2; omega
  by_cases hnm : n = m
  · subst hnm
    obtain ⟨R, hR⟩ : ∃ R, eqP eqA xs ys = R := ⟨_, rfl⟩
    rw [hR]
    have hent := enters_of Tryz.func38 (by kernel_rfl) rfl
    have HR := Lib.hid (show eqP eqA (xs.drop 0) (ys.drop 0) = R by rw [List.drop_zero, List.drop_zero]; exact hR)
    have HL := Lib.hid (And.intro hl (And.intro hl2 (And.intro hL hL2)))
    have HZ := Lib.hid (And.intro za zb)
    clear hl hl2 hL hL2 za zb hR hm hm2
    go_enter Tryz.func37, Tryz.ntmps37
    go_wp2_with fail
    go_loopg [17] (n + 1) (fun gk s17 wx => ∃ (i : Nat), s17 = .int .i64 i ∧ i ≤ n ∧ n - i < gk ∧ Hid (eqP eqA (xs.drop i) (ys.drop i) = R ∧ Below w.heap.size w wx))
    case atStart => exact ⟨0, rfl, by omega, by omega, Lib.hid ⟨HR.out, Below.refl _ _⟩⟩
    case round =>
      obtain ⟨i, rfl, hi, hgk, HI⟩ := hrel
      clear HR
      by_cases hlt : i < n
      · have hltz : (i : Int) < (n : Int) := by omega
        obtain ⟨gk', rfl⟩ : ∃ g', gk = g' + 1 := ⟨gk - 1, by omega⟩
        have HN := Lib.hid (And.intro (show i + 1 ≤ n from hlt) (show n - (i + 1) < gk' by omega))
        have hix : i < xs.length := by rw [HL.out.1]; exact hlt
        have hiy : i < ys.length := by rw [HL.out.2.1]; exact hlt
        obtain ⟨g, off, A0, l0, k0, s, rfl, hs, e0, e1, hx1, hx2, hx3, hx5, hxh⟩ := at_cells HL.out.2.2.1 HI.out.2 i hix
        obtain ⟨g', off', A1, l1, k1, t, rfl, ht, e0', e1', hy1, hy2, hy3, hy5, hyh⟩ := at_cells HL.out.2.2.2 HI.out.2 i hiy
        have hbx : Below wr.heap.size wr ((wr.alloc (.cells #[.slice A0 l0 k0, .string s] 43)).alloc (.cells #[.slice A1 l1 k1, .string t] 43)) := (below_new _ _).alloc (by simp) _
        have hcall := sameAttr_any xs[i] ys[i] B C _ _ _ _ _ (atE.stays ⟨hbx.size, fun p _ hp => hbx.cell hp⟩ hxh) (atE.stays ⟨hbx.size, fun p _ hp => hbx.cell hp⟩ hyh) (HZ.out.1 _ (List.getElem_mem hix)) (HZ.out.2 _ (List.getElem_mem hiy))
        have hbx1 := below_new wr (.cells #[.slice A0 l0 k0, .string s] 43)
        have u0 := cell_on hbx1 e0'
        have u1 := cell_on hbx1 e1'
        have hst := eqP_step hix hiy HI.out.1
        obtain ⟨r, hr⟩ : ∃ x, eqA xs[i] ys[i] = x := ⟨_, rfl⟩
        rw [hr] at hcall hst
        have HC := Lib.hid hcall
        have HS := Lib.hid hst
        have HB := Lib.hid (below_then HI.out.2 hbx (Nat.le_refl _))
        clear hcall hst hr hbx hbx1 hx1 hx2 hx3 hx5 hxh hy1 hy2 hy3 hy5 hyh hs ht hgk
        go_wp2_with fail
        refine HC.out.mono ?_
        rintro e w3 ⟨rfl, hb3⟩
        have hfin := Lib.hid (below_then HB.out hb3 (Nat.le_refl _))
        clear hb3 HC HB e0 e1 e0' e1' u0 u1
        cases r with
        | false =>
          have hR := HS.out.1 rfl
          subst hR
          go_wp2
          go_ret
          exact ⟨rfl, hfin.out⟩
        | true =>
          have HS2 := Lib.hid (HS.out.2 rfl)
          go_wp2
          go_roundg gk'
          case measure => omega
          case rel => exact ⟨i + 1, by go_num, HN.out.1, HN.out.2, Lib.hid ⟨HS2.out, hfin.out⟩⟩
      · obtain rfl : n = i := by omega
        have hltz : ¬ (n : Int) < (n : Int) := by omega
        have hR := eqP_end (by rw [HL.out.1]; omega) (by rw [HL.out.2.1]; omega) HI.out.1
        subst hR
        clear hgk
        go_wp2
        go_ret
        exact ⟨rfl, HI.out.2⟩
  · rw [eqP_no (by omega)]
    have hne : ((n : Int) != m) = true := by simp only [bne_iff_ne, ne_eq]; omega
    have hne2 : (n != m) = true := by simpa using hnm
    clear hL hL2 hl hl2 hnm
    go_enter Tryz.func37, Tryz.ntmps37
    go_wp2
    go_ret
    exact ⟨rfl, Below.refl _ _⟩
set_option maxRecDepth 100000 in
set_option maxHeartbeats 4000000 in
theorem same_any (B C : Nat → Prop) (A A' : Option Addr) (n c m d : Nat) (xs ys : List At) (w : World) (hl : xs.length = n) (hl2 : ys.length = m) (hL : Lst atE B w A xs) (hL2 : Lst atE C w A' ys) (hc : n ≤ c) (hm : c ≤ maxLen) (hc2 : m ≤ d) (hm2 : d ≤ maxLen)
    (za : ∀ a ∈ xs, a.text.size ≤ 8796093022208) (zb : ∀ a ∈ ys, a.text.size ≤ 8796093022208) :
    Calls Tryz.prog 14 #[.slice A n c, .slice A' m d] w fun e w' => e = .returned (.bool (eqP eqA xs ys)) ∧ Below w.heap.size w w' := by
  have hcall := eqFuncA_any B C A A' n c m d xs ys w hl hl2 hL hL2 hc hm hc2 hm2 za zb
  have HC := Lib.hid hcall
  clear hcall hl hl2 hL hL2 hc hm hc2 hm2 za zb
  go_enter Tryz.func14, Tryz.ntmps14
  go_wp2_with fail
  refine HC.out.mono ?_
  rintro e w3 ⟨rfl, hb3⟩
  have hfin := Lib.hid hb3
  clear hb3 HC
  go_wp2
  go_ret
  exact ⟨rfl, hfin.out⟩
/-- Does a name begin with another one? -/
def unP (a b : List At) : Bool := decide (b.length ≤ a.length) && eqP eqA (a.take b.length) b
set_option maxRecDepth 100000 in
set_option maxHeartbeats 4000000 in
theorem under_any (B C : Nat → Prop) (A A' : Option Addr) (n c m d : Nat) (xs ys : List At) (w : World) (hl : xs.length = n) (hl2 : ys.length = m) (hL : Lst atE B w A xs) (hL2 : Lst atE C w A' ys) (hc : n ≤ c) (hm : c ≤ maxLen) (hc2 : m ≤ d) (hm2 : d ≤ maxLen)
    (za : ∀ a ∈ xs, a.text.size ≤ 8796093022208) (zb : ∀ a ∈ ys, a.text.size ≤ 8796093022208) :
    Calls Tryz.prog 15 #[.slice A n c, .slice A' m d] w fun e w' => e = .returned (.bool (unP xs ys)) ∧ Below w.heap.size w w' := by
  have h9 : c ≤ 9223372036854775807 := by unfold maxLen at hm; omega
  by_cases hmn : m ≤ n
  · have hcall := same_any B C A A' m c m d (xs.take m) ys w (by rw [List.length_take]; omega) hl2 (hL.take m) hL2 (by omega) hm hc2 hm2 (fun a ha => za a (List.mem_of_mem_take ha)) zb
    have e : unP xs ys = eqP eqA (xs.take m) ys := by unfold unP; rw [hl, hl2, decide_eq_true hmn, Bool.true_and]
    rw [e]
    obtain ⟨R, hR⟩ : ∃ R, eqP eqA (xs.take m) ys = R := ⟨_, rfl⟩
    rw [hR] at hcall ⊢
    have hz1 : (m : Int) ≤ (n : Int) := by omega
    have HC := Lib.hid hcall
    clear hcall hl hl2 hL hL2 hm hc2 hm2 za zb e hR
    go_enter Tryz.func15, Tryz.ntmps15
    go_wp2_with fail
    refine HC.out.mono ?_
    rintro e w3 ⟨rfl, hb3⟩
    have hfin := Lib.hid hb3
    clear hb3 HC
    cases R
    all_goals
      go_wp2
      go_ret
      exact ⟨rfl, hfin.out⟩
  · have e : unP xs ys = false := by unfold unP; rw [hl, hl2, decide_eq_false hmn, Bool.false_and]
    rw [e]
    have hz1 : ¬ (m : Int) ≤ (n : Int) := by omega
    clear hl hl2 hL hL2 hm hc2 hm2 za zb e hmn
    go_enter Tryz.func15, Tryz.ntmps15
    go_wp2
    go_ret
    exact ⟨rfl, Below.refl _ _⟩
end Go.Proofs.YthcancakkkjpaaaGreatDoor.nmc
