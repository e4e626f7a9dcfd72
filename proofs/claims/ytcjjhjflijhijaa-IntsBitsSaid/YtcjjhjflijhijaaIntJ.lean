/- What is an object, by the document; an object's body, by both. -/
import Derived.Test.YtcjjhjflijhijaaIntI
import Derived.StillTailTactics
namespace Go.Proofs.Ytcjjhjflijhijaa.intc
open Go.RowKit Go.Proofs.Ytcjjhjflijhijaa.tlvc Go.Proofs.Ytcjjhjflijhijaa.intm
set_option linter.unusedVariables false

theorem refObject_any (A : Option Addr) (n c : Nat) (xs : List Int) (w : World) (hb : Ins w A n xs) (hc : n ≤ c) (hm : c ≤ maxLen) :
    Calls Try.prog 35 #[.slice A n c] w (QuietB w (objB xs)) := by
  unfold maxLen at hm
  have hlen := hb.len
  by_cases h2 : n < 2
  · rw [objB_len (by omega)]
    clear hlen
    go_enter Try.func35, Try.ntmps35
    go_wp2
    go_ret
    exact ⟨rfl, 0, rfl⟩
  by_cases h16 : 16 < n
  · rw [objB_len (by omega)]
    clear hlen
    go_enter Try.func35, Try.ntmps35
    go_wp2
    go_ret
    exact ⟨rfl, 0, rfl⟩
  obtain ⟨b, off, rfl, _, hcl⟩ := hb.2.2 (by omega)
  have HL := Lib.hid hlen
  have HC := Lib.hid hcl
  obtain ⟨R, hR⟩ : ∃ R, objB xs = R := ⟨_, rfl⟩
  rw [hR]
  have HR := Lib.hid hR
  clear hlen hcl hR
  go_enter Try.func35, Try.ntmps35
  go_wp2
  go_loop [3] (fun x => ∃ k : Nat, x = .int .i64 k ∧ k ≤ n ∧ Upto xs k) (fun x => n - (intOf x).toNat)
  case atStart => exact ⟨0, rfl, by omega, fun j hj => by omega⟩
  case round =>
    obtain ⟨k, rfl, hk, hup⟩ := hrel
    by_cases hlt : k < n
    · have hcell := HC.out k hlt
      by_cases hok : 0 ≤ xs.getD k 0 ∧ xs.getD k 0 ≤ 268435455
      · have hn := upto_step hup hok
        obtain ⟨x, hx⟩ : ∃ x, xs.getD k 0 = x := ⟨_, rfl⟩
        rw [hx] at hok hcell
        clear hx
        go_wp2
        go_round
        case rel => exact ⟨k + 1, by go_num, by omega, hn⟩
        case measure => simp [intOf]; omega
      · have e : R = false := by rw [← HR.out]; exact objB_bad (by rw [HL.out]; exact hlt) (by omega)
        subst e
        obtain ⟨x, hx⟩ : ∃ x, xs.getD k 0 = x := ⟨_, rfl⟩
        rw [hx] at hok hcell
        clear hx
        by_cases hx0 : x < 0
        · clear hok
          go_wp2
          go_ret
          exact ⟨rfl, 0, rfl⟩
        · have hx1 : 268435455 < x := by omega
          clear hok
          go_wp2
          go_ret
          exact ⟨rfl, 0, rfl⟩
    · have hR := objB_all (by rw [HL.out]; omega) hup (by rw [HL.out]; omega) (by rw [HL.out]; omega)
      rw [HR.out] at hR
      have hu0 := hup 0 (by omega)
      have hu1 := hup 1 (by omega)
      have hc0 : w.cell? ⟨b, off, none⟩ = some (.int .i64 (xs.getD 0 0)) := by simpa using HC.out 0 (by omega)
      have hc1 := HC.out 1 (by omega)
      obtain ⟨x0, hx0⟩ : ∃ x0, xs.getD 0 0 = x0 := ⟨_, rfl⟩
      obtain ⟨x1, hx1⟩ : ∃ x1, xs.getD 1 0 = x1 := ⟨_, rfl⟩
      rw [hx0, hx1] at hR
      rw [hx0] at hc0 hu0
      rw [hx1] at hc1 hu1
      clear hx0 hx1 hup
      by_cases h0 : 2 < x0
      · have e : R = false := by rw [hR]; simp; omega
        have hd : decide (x0 ≤ 2) = false := by simp; omega
        subst e
        clear hR
        go_wp2
        go_quiet (fail)
        go_wp2
        go_ret
        exact ⟨rfl, _, rfl⟩
      · have hd : decide (x0 ≤ 2) = true := by simp; omega
        by_cases h1 : x0 < 2
        · have he2 : (x0 == 2) = false := by simp; omega
          by_cases h40 : 40 ≤ x1
          · have e : R = false := by rw [hR]; simp; omega
            have hd2 : decide (x1 < 40) = false := by simp; omega
            subst e
            clear hR
            go_wp2
            go_quiet (fail)
            go_wp2
            go_ret
            exact ⟨rfl, _, rfl⟩
          · have e : R = decide (40 * x0 + x1 ≤ 268435455) := by rw [hR, decide_eq_decide]; omega
            have hd2 : decide (x1 < 40) = true := by simp; omega
            subst e
            clear hR
            go_wp2
            go_quiet (fail)
            go_wp2
            go_ret
            exact ⟨rfl, _, rfl⟩
        · have e : R = decide (40 * x0 + x1 ≤ 268435455) := by rw [hR, decide_eq_decide]; omega
          have he2 : (x0 == 2) = true := by simp; omega
          subst e
          clear hR
          go_wp2
          go_quiet (fail)
          go_wp2
          go_ret
          exact ⟨rfl, _, rfl⟩

/-- What a call leaves that answers bytes and an error. -/
def OMade (w : World) (ys : List Int) (er : Int) (e : Ending) (w' : World) : Prop :=
  ∃ A c, e = .returned (.tuple #[.slice A ys.length c, .int .i64 er]) ∧ Here w.heap.size A c ys w' ∧ Below w.heap.size w w'
theorem oMade_none (w w' : World) (er : Int) (h : Below w.heap.size w w') : OMade w [] er (.returned (.tuple #[.slice none 0 0, .int .i64 er])) w' :=
  ⟨none, 0, rfl, ⟨Bys.nil_ _ _, Nat.le_refl _, Nat.zero_le _, fun _ _ h => by cases h⟩, h⟩
theorem oMade_own {w w' : World} {v : Value} {n : Nat} {ys : List Int} (h : w'.ownsRow w.heap.size 5 1 v n (vals ys)) (hf : Fit ys) (hb : Below w.heap.size w w') : OMade w ys 0 (.returned (.tuple #[v, .int .i64 0])) w' := by
  obtain ⟨A, c, he, hh, hbl⟩ := made_own h hf hb
  simp only [Ending.returned.injEq] at he
  subst he
  exact ⟨A, c, rfl, hh, hbl⟩
theorem below_drewN {w : World} (q : Nat) : Below w.heap.size w (w.drewN q) := ⟨rfl, rfl, rfl, Nat.le_refl _, fun _ _ => rfl⟩

/-- The numbers of an object up to the arc k. -/
def ahead (l : List Int) (k : Nat) : List Int := (40 * l.getD 0 0 + l.getD 1 0) :: (l.drop 2).take k
theorem ahead_all {l : List Int} {k : Nat} (h : l.length ≤ k + 2) : ahead l k = nums l := by
  unfold ahead nums; rw [List.take_of_length_le (by rw [List.length_drop]; omega)]
theorem ahead_step {l : List Int} {k : Nat} (h : k + 2 < l.length) : body (ahead l (k + 1)) = body (ahead l k) ++ digs (l.getD (2 + k) 0) := by
  have e : ahead l (k + 1) = ahead l k ++ [l.getD (2 + k) 0] := by
    unfold ahead
    rw [List.take_succ_eq_append_getElem (by rw [List.length_drop]; omega)]
    simp [List.getD_eq_getElem?_getD, List.getElem?_eq_getElem (show 2 + k < l.length by omega)]
  rw [e, body_append]
  simp [body]
theorem ahead_zero (l : List Int) : body (ahead l 0) = digs (40 * l.getD 0 0 + l.getD 1 0) := by simp [ahead, body]
theorem ahead_fit (l : List Int) (k : Nat) : Fit (body (ahead l k)) := body_bytes _
theorem ahead_length {l : List Int} (h : objB l = true) {k : Nat} (hk : k ≤ 16) : (body (ahead l k)).length ≤ 68 := by
  have ha : ∀ n ∈ ahead l k, Arc n := by
    intro n hn
    refine nums_arc h n ?_
    unfold ahead at hn
    unfold nums
    rcases List.mem_cons.1 hn with rfl | hn
    · simp
    · exact List.mem_cons_of_mem _ (List.mem_of_mem_take hn)
  have h1 := body_length _ ha
  have h2 : (ahead l k).length ≤ 17 := by unfold ahead; simp; omega
  omega

set_option maxRecDepth 100000 in
set_option maxHeartbeats 1000000 in
theorem putOID_any (A : Option Addr) (n c : Nat) (xs : List Int) (w : World) (hb : Ins w A n xs) (hc : n ≤ c) (hm : c ≤ maxLen) :
    Calls Try.prog 17 #[.slice A n c] w (OMade w (putO xs).1 (putO xs).2) := by
  have hm' := hm
  unfold maxLen at hm
  by_cases ho : objB xs = true
  · have e1 : (putO xs).1 = encO xs := by unfold putO; rw [if_pos ho]
    have e2 : (putO xs).2 = 0 := by unfold putO; rw [if_pos ho]
    rw [e1, e2]
    have hobj := (objB_iff xs).1 ho
    have hlen := hb.len
    have HO := Lib.hid ho
    have HL := Lib.hid hlen
    have hn2 : 2 ≤ n := by omega
    have hn16 : n ≤ 16 := by omega
    have hA0 := hobj.2.2.1
    clear e1 e2 hobj hlen ho
    go_enter Try.func17, Try.ntmps17
    go_wp2_with fail
    refine (object_any _ _ _ _ _ hb hc hm').mono ?_
    rw [HO.out]
    rintro e w1 ⟨rfl, q, rfl⟩
    have hb1 := hb.drewN q
    have hbel1 : Below w.heap.size w (w.drewN q) := below_drewN q
    obtain ⟨w1, hw1⟩ : ∃ w1, w.drewN q = w1 := ⟨_, rfl⟩
    rw [hw1] at hb1 hbel1 ⊢
    clear hw1
    obtain ⟨b, off, rfl, _, hcl⟩ := hb1.2.2 (by omega)
    have hc0 : w1.cell? ⟨b, off, none⟩ = some (.int .i64 (xs.getD 0 0)) := by simpa using hcl 0 (by omega)
    have hc1 := hcl 1 (by omega)
    have hu0 : 0 ≤ xs.getD 0 0 ∧ xs.getD 0 0 ≤ 268435455 := hA0 _ (by rw [List.getD_eq_getElem?_getD, List.getElem?_eq_getElem (by rw [HL.out]; omega)]; exact List.getElem_mem _)
    have hu1 : 0 ≤ xs.getD 1 0 ∧ xs.getD 1 0 ≤ 268435455 := hA0 _ (by rw [List.getD_eq_getElem?_getD, List.getElem?_eq_getElem (by rw [HL.out]; omega)]; exact List.getElem_mem _)
    have hu2 : 40 * xs.getD 0 0 + xs.getD 1 0 ≤ 268435455 := ((objB_iff xs).1 HO.out).2.2.2.2.2
    obtain ⟨x0, hx0⟩ : ∃ x0, xs.getD 0 0 = x0 := ⟨_, rfl⟩
    obtain ⟨x1, hx1⟩ : ∃ x1, xs.getD 1 0 = x1 := ⟨_, rfl⟩
    rw [hx0] at hc0 hu0 hu2
    rw [hx1] at hc1 hu1 hu2
    have hw := IntWalk.wrap64_in (40 * x0) (by omega)
    have hw' := IntWalk.wrap64_in (40 * x0 + x1) (by omega)
    have HX0 := Lib.hid hx0
    have HX1 := Lib.hid hx1
    clear hx0 hx1 hcl
    have hd0 : ({ heap := w1.heap, tape := w1.tape, drawn := w1.drawn + 1, os := w1.os, output := w1.output } : World).cell? ⟨b, off, none⟩ = some (.int .i64 (x0)) := hc0
    have hd1 : ({ heap := w1.heap, tape := w1.tape, drawn := w1.drawn + 1, os := w1.os, output := w1.output } : World).cell? ⟨b, off + 1, none⟩ = some (.int .i64 (x1)) := hc1
    go_wp2
    have hi0 : (0 : Int) < (n : Int) := by omega
    have hi1 : (1 : Int) < (n : Int) := by omega
    have hj0 : 0 < n := by omega
    have hj1 : 1 < n := by omega
    go_still_tail 8, (by kernel_rfl)
    change wpList _ _ _ _ _ w1.drew
    have hb2 : Ins w1.drew (some ⟨b, off, none⟩) n xs := hb1
    have hbel2 : Below w.heap.size w w1.drew := hbel1.trans ((below_drewN (w := w1) 1).mono hbel1.size)
    obtain ⟨w2, hw2⟩ : ∃ w2, w1.drew = w2 := ⟨_, rfl⟩
    rw [hw2] at hb2 hbel2 ⊢
    clear hw2 hd0 hd1 hc0 hc1 hb1 hbel1
    have hfitx : ∀ j, j < n → Arc (xs.getD j 0) := fun j hj => hA0 _ (by rw [List.getD_eq_getElem?_getD, List.getElem?_eq_getElem (by rw [HL.out]; omega)]; exact List.getElem_mem _)
    have HF := Lib.hid hfitx
    have HA := Lib.hid hA0
    clear hfitx hA0
    go_wp2_with fail
    clear hw hw'
    refine (appendDigits_any w.heap.size (.slice none 0 0) 0 [] _ _ (World.ownsRow_nil _ _ _ _) (by omega) (show Arc _ from ⟨by omega, hu2⟩) hbel2.size).mono ?_
    rintro e w3 ⟨v3, rfl, ho3, hb3⟩
    have hstart : w3.ownsRow w.heap.size 5 1 v3 (body (ahead xs 0)).length (vals (body (ahead xs 0))) := by
      rw [ahead_zero, HX0.out, HX1.out]; simpa using ho3
    have hbel3 : Below w.heap.size w w3 := hbel2.trans hb3
    have hb3' : Ins w3 (some ⟨b, off, none⟩) n xs := hb.below hbel3
    have hcl3 := hb3'.2.2 (by omega)
    clear ho3 hb3 hb2 hbel2
    by_cases hc2 : c = 2
    · subst hc2
      obtain rfl : n = 2 := by omega
      have hend : OMade w (encO xs) 0 (.returned (.tuple #[v3, .int .i64 0])) w3 := by
        have e : encO xs = body (ahead xs 0) := by unfold encO; rw [ahead_all (by rw [HL.out]; exact Nat.le_refl _)]
        rw [e]
        exact oMade_own hstart (ahead_fit _ _) hbel3
      clear hcl3 hstart hbel3 hb3'
      go_wp2
      go_loopw [4, 22] (fun x y wr => x = v3 ∧ y = .int .i64 0 ∧ wr = w3) (fun _ _ _ => 0)
      case atStart => exact ⟨rfl, rfl, rfl⟩
      case round =>
        obtain ⟨rfl, rfl, rfl⟩ := hrel
        go_wp2
        go_ret2
        exact hend
    · clear hb3'
      go_wp2
      go_loopw [4, 22] (fun x y wr => ∃ k : Nat, y = .int .i64 k ∧ k ≤ n - 2 ∧ wr.ownsRow w.heap.size 5 1 x (body (ahead xs k)).length (vals (body (ahead xs k))) ∧ Below w.heap.size w wr) (fun _ y _ => n - (intOf y).toNat)
      case atStart => exact ⟨0, rfl, by omega, hstart, hbel3⟩
      case round =>
        obtain ⟨k, rfl, hk, hrow, hbw⟩ := hrel
        clear hstart hcl3 hbel3
        by_cases hlt : k < n - 2
        · obtain ⟨b', off', hA, _, hcl4⟩ := (hb.below hbw).2.2 (by omega)
          cases hA
          have hcell := hcl4 (2 + k) (by omega)
          rw [← Nat.add_assoc] at hcell
          have harc := HF.out (2 + k) (by omega)
          have hstep := ahead_step (l := xs) (k := k) (by rw [HL.out]; omega)
          have hL := ahead_length HO.out (k := k) (by omega)
          obtain ⟨x, hx⟩ : ∃ x, xs.getD (2 + k) 0 = x := ⟨_, rfl⟩
          rw [hx] at hcell harc hstep
          have HS := Lib.hid hstep
          clear hcl4 hstep hx
          go_wp2_with fail
          refine (appendDigits_any w.heap.size u4 _ _ x _ hrow (by omega) harc hbw.size).mono ?_
          rintro e w4 ⟨v4, rfl, ho4, hb4⟩
          go_wp2_with fail
          go_roundw
          case rel => exact ⟨k + 1, by go_num, by omega, by rw [HS.out, List.length_append, vals_append]; exact ho4, hbw.trans hb4⟩
          case measure => simp [intOf]; omega
        · have hend : OMade w (encO xs) 0 (.returned (.tuple #[u4, .int .i64 0])) wr := by
            have e : encO xs = body (ahead xs k) := by unfold encO; rw [ahead_all (by rw [HL.out]; omega)]
            rw [e]
            exact oMade_own hrow (ahead_fit _ _) hbw
          go_wp2
          go_ret2
          exact hend
  · have e1 : putO xs = ([], 22) := by unfold putO; rw [if_neg ho]
    have ho' : objB xs = false := by simpa using ho
    rw [e1]
    clear e1 ho
    go_enter Try.func17, Try.ntmps17
    go_wp2_with fail
    refine (object_any _ _ _ _ _ hb hc hm').mono ?_
    rw [ho']
    rintro e w1 ⟨rfl, q, rfl⟩
    go_wp2
    go_ret2
    exact oMade_none _ _ _ (below_drewN q)
end Go.Proofs.Ytcjjhjflijhijaa.intc
