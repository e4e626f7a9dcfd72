/- Which terms are right: plain, and the program's. -/
import Derived.Test.YtlnclgpbobaedaaDoorTmOd
import Derived.Outline
import Derived.BigQuiet
import Derived.Deep.QuietTactic
namespace Go.Proofs.YtlnclgpbobaedaaDoor.tmc
open Go.RowKit Go.Proofs.YtlnclgpbobaedaaDoor.tlvc
set_option linter.unusedVariables false
/-- Is a term right, whatever its kids are? -/
def aloneB (o m : Int) (d k : Nat) : Bool :=
  if o = 1 then decide (k = 0 ∧ d = 0 ∧ 0 ≤ m ∧ m ≤ 1099511627776)
  else if o = 2 then decide (k = 1 ∧ d = 0 ∧ m = 0)
  else if o = 3 ∨ o = 4 ∨ o = 6 then decide (k = 1 ∧ d ≤ 8192 ∧ m = 0)
  else if o = 5 then decide (k = 0 ∧ d ≤ 8192 ∧ m = 0)
  else if o = 7 then decide (k ≤ 4 ∧ d = 0 ∧ m = 0)
  else false
/-- Do they not fall? -/
def sortedL : List Tm → Bool
  | [] => true
  | a :: r => match r with
    | [] => true
    | b :: _ => decide (ordT a b ≤ 0) && sortedL r
mutual
def rightF : Tm → Nat → Bool
  | .mk o m d ks, outer => decide (outer < 16) && aloneB o m d.length ks.length && rightL ks (outer + 1) && sortedL ks
def rightL : List Tm → Nat → Bool
  | [], _ => true
  | k :: ks, outer => rightF k outer && rightL ks outer
end
theorem rightL_all : ∀ (ks : List Tm) (outer : Nat), rightL ks outer = ks.all (fun k => rightF k outer)
  | [], _ => by unfold rightL; rfl
  | k :: ks, outer => by unfold rightL; rw [rightL_all ks outer]; rfl
theorem sortedL_two (a b : Tm) (r : List Tm) : sortedL (a :: b :: r) = (decide (ordT a b ≤ 0) && sortedL (b :: r)) := by conv => lhs; unfold sortedL
theorem sortedL_tail {a : Tm} {r : List Tm} (h : sortedL (a :: r) = true) : sortedL r = true := by
  cases r with
  | nil => rfl
  | cons b r => rw [sortedL_two, Bool.and_eq_true] at h; exact h.2
theorem sortedL_drop : ∀ (i : Nat) (ks : List Tm), sortedL ks = true → sortedL (ks.drop i) = true
  | 0, _, h => h
  | _ + 1, [], h => h
  | i + 1, a :: r, h => sortedL_drop i r (sortedL_tail h)
theorem sortedL_pair {ks : List Tm} {i : Nat} (h : i + 1 < ks.length) : sortedL (ks.drop i) = (decide (ordT (ks[i]'(by omega)) ks[i + 1] ≤ 0) && sortedL (ks.drop (i + 1))) := by
  rw [List.drop_eq_getElem_cons (by omega), List.drop_eq_getElem_cons h, sortedL_two]
theorem sortedL_last {ks : List Tm} {i : Nat} (h : ks.length ≤ i + 1) : sortedL (ks.drop i) = true := by
  rcases Nat.lt_or_ge i ks.length with h1 | h1
  · rw [List.drop_eq_getElem_cons h1, List.drop_eq_nil_of_le (by omega)]; rfl
  · rw [List.drop_eq_nil_of_le h1]; rfl
set_option maxRecDepth 100000 in
set_option maxHeartbeats 8000000 in
theorem sorted_any (C : Nat → Prop) (ks : List Tm) (A : Option Addr) (la ca : Nat) (w : World) (e1 : ks.length = la) (hA : TmsB C w A ks) (hc1 : la ≤ ca) (hm1 : ca ≤ maxLen) :
    Calls Tryd.prog 53 #[.slice A la ca, .func (.func 46) #[] #[]] w fun e w' => e = .returned (.bool (sortedL ks)) ∧ Below w.heap.size w w' := by
  have hen := enters_of Tryd.func46 (by kernel_rfl) rfl
  obtain ⟨ANS, hANS⟩ : ∃ x, sortedL ks = x := ⟨_, rfl⟩
  rw [hANS]
  have HN := Lib.hid hANS
  have HA := Lib.hid hA
  have h9 : ca ≤ 9223372036854775807 := by unfold maxLen at hm1; omega
  have hlast := sortedL_last (ks := ks) (i := la - 1) (by omega)
  have HL := Lib.hid hlast
  clear hA hANS hlast
  by_cases h0 : la = 0
  · have hE : ANS = true := by
      rw [← HN.out, List.eq_nil_of_length_eq_zero (by omega : ks.length = 0)]; rfl
    clear HN HL
    subst hE h0
    go_enter Tryd.func53, Tryd.ntmps53
    go_wp2_with fail
    refine wp_loop_rounds 1 ?_; rw [rounds_succ]; go_wp2
    go_ret
    exact ⟨rfl, Below.refl _ _⟩
  · have hw0 : IntKind.i64.wrap ((la : Int) - 1) = ((la - 1 : Nat) : Int) := by rw [IntWalk.i64_in _ (by omega)]; omega
    go_enter Tryd.func53, Tryd.ntmps53
    go_wp2_with fail
    go_loopg [5] (la + 1) (fun gk s5 wx => ∃ (i : Nat), s5 = .int .i64 i ∧ i < la ∧ i < gk ∧ Hid (sortedL (ks.drop i) = true) ∧ Below w.heap.size w wx)
    case atStart => exact ⟨la - 1, by first | rfl | (congr 1; omega), by omega, by omega, HL, Below.refl _ _⟩
    case round =>
      obtain ⟨i, rfl, hi, hgk, hq, hbel⟩ := hrel
      clear hw0
      by_cases hlt : 0 < i
      · obtain ⟨j, hj⟩ : ∃ j, i = j + 1 := ⟨i - 1, by omega⟩
        obtain ⟨gk', rfl⟩ : ∃ g', gk = g' + 1 := ⟨gk - 1, by omega⟩
        obtain ⟨g, off, rfl, hg, hBg, hks⟩ := HA.out (by omega)
        have hk := KidsC.below hbel hg hBg ks off hks
        obtain ⟨d0, d1, d2, d3, p0, p1, p2, p3, hd⟩ := hk.at i (by omega)
        obtain ⟨f0, f1, f2, f3, q0, q1, q2, q3, hf⟩ := hk.at j (by omega)
        have hst : sortedL (ks.drop j) = (decide (ordT (ks[j]'(by omega)) (ks[i]'(by omega)) ≤ 0) && sortedL (ks.drop i)) := by
          subst hj
          exact sortedL_pair (ks := ks) (i := j) (by omega)
        have hsw := ordT_swap (ks[j]'(by omega)) (ks[i]'(by omega))
        have ih := order_any (ks[i]'(by omega)) (ks[j]'(by omega)) C C (.agg #[d0, d1, d2, d3]) (.agg #[f0, f1, f2, f3]) wr.drew ⟨_, _, _, _, rfl, TmC.below (Below.refl _ _).drew _ _ _ _ _ hd⟩ ⟨_, _, _, _, rfl, TmC.below (Below.refl _ _).drew _ _ _ _ _ hf⟩
        have hq2 := hq.out
        rw [hq2, Bool.and_true] at hst
        obtain ⟨r, hr⟩ : ∃ x, ordT (ks[j]'(by omega)) (ks[i]'(by omega)) = x := ⟨_, rfl⟩
        rw [hr] at hst hsw
        rw [hsw] at ih
        have hb := ordT_sg (ks[j]'(by omega)) (ks[i]'(by omega))
        rw [hr] at hb
        unfold Sg at hb
        have IH2 := Lib.hid ih
        have ST := Lib.hid hst
        have Y0 : ({ heap := wr.heap, tape := wr.tape, drawn := wr.drawn + 1, os := wr.os, output := wr.output } : World).cell? ⟨g, off + i * 4, none⟩ = some d0 := p0
        have Y1 : ({ heap := wr.heap, tape := wr.tape, drawn := wr.drawn + 1, os := wr.os, output := wr.output } : World).cell? ⟨g, off + i * 4 + 1, none⟩ = some d1 := p1
        have Y2 : ({ heap := wr.heap, tape := wr.tape, drawn := wr.drawn + 1, os := wr.os, output := wr.output } : World).cell? ⟨g, off + i * 4 + 2, none⟩ = some d2 := p2
        have Y3 : ({ heap := wr.heap, tape := wr.tape, drawn := wr.drawn + 1, os := wr.os, output := wr.output } : World).cell? ⟨g, off + i * 4 + 3, none⟩ = some d3 := p3
        have Z0 : ({ heap := wr.heap, tape := wr.tape, drawn := wr.drawn + 1, os := wr.os, output := wr.output } : World).cell? ⟨g, off + j * 4, none⟩ = some f0 := q0
        have Z1 : ({ heap := wr.heap, tape := wr.tape, drawn := wr.drawn + 1, os := wr.os, output := wr.output } : World).cell? ⟨g, off + j * 4 + 1, none⟩ = some f1 := q1
        have Z2 : ({ heap := wr.heap, tape := wr.tape, drawn := wr.drawn + 1, os := wr.os, output := wr.output } : World).cell? ⟨g, off + j * 4 + 2, none⟩ = some f2 := q2
        have Z3 : ({ heap := wr.heap, tape := wr.tape, drawn := wr.drawn + 1, os := wr.os, output := wr.output } : World).cell? ⟨g, off + j * 4 + 3, none⟩ = some f3 := q3
        have hlz : (0 : Int) < (i : Int) := by omega
        have hwj : IntKind.i64.wrap ((i : Int) - 1) = (j : Int) := by rw [IntWalk.i64_in _ (by omega)]; omega
        have i1 : (0 : Int) ≤ (i : Int) := by omega
        have i2 : (i : Int) < (la : Int) := by omega
        have i3 : (0 : Int) ≤ (j : Int) := by omega
        have i4 : (j : Int) < (la : Int) := by omega
        have hji : j < i := by omega
        clear ih hj hq2 hst hr hd hf hks hk hq hsw
        go_wp2_with fail
        go_still_tail 10, (by kernel_rfl)
        change wpList _ _ _ _ _ wr.drew
        have hbel1 := hbel.drew
        obtain ⟨w2, hw2⟩ : ∃ x, wr.drew = x := ⟨_, rfl⟩
        rw [hw2] at IH2 hbel1 ⊢
        clear hw2 Y0 Y1 Y2 Y3 Z0 Z1 Z2 Z3 p0 p1 p2 p3 q0 q1 q2 q3 hbel
        go_wp2_with fail
        refine IH2.out.mono ?_
        rintro e w3 ⟨rfl, hb3⟩
        have hbel3 := below_then hbel1 hb3 (Nat.le_refl _)
        clear IH2 hb3 hbel1
        by_cases hr0 : r ≤ 0
        · have hz : ¬ (-r) < 0 := by omega
          have Q3 : Hid (sortedL (ks.drop j) = true) := Lib.hid (by rw [ST.out]; exact decide_eq_true hr0)
          clear ST HN
          go_wp2
          go_roundg gk'
          case measure => omega
          case rel => exact ⟨j, by first | rfl | go_num, by omega, by omega, Q3, hbel3⟩
        · have hz : (-r) < 0 := by omega
          have hE : ANS = false := by
            rw [← HN.out]
            cases hs : sortedL ks with
            | false => rfl
            | true =>
              have := sortedL_drop j ks hs
              rw [ST.out] at this
              exact absurd (of_decide_eq_true this) hr0
          clear ST HN
          subst hE
          go_wp2
          go_ret
          exact ⟨rfl, hbel3⟩
      · obtain rfl : i = 0 := by omega
        have hE : ANS = true := by rw [← HN.out]; exact hq.out
        clear hq HN
        subst hE
        go_wp2
        go_ret
        exact ⟨rfl, hbel⟩
end Go.Proofs.YtlnclgpbobaedaaDoor.tmc
