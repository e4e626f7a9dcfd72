/- An object's body, by the document. -/
import Derived.Test.YtcjjhjflijhijaaIntJ
namespace Go.Proofs.Ytcjjhjflijhijaa.intc
open Go.RowKit Go.Proofs.Ytcjjhjflijhijaa.tlvc Go.Proofs.Ytcjjhjflijhijaa.intm
set_option linter.unusedVariables false

set_option maxRecDepth 100000 in
set_option maxHeartbeats 1000000 in
theorem refPutOID_any (A : Option Addr) (n c : Nat) (xs : List Int) (w : World) (hb : Ins w A n xs) (hc : n ≤ c) (hm : c ≤ maxLen) :
    Calls Try.prog 18 #[.slice A n c] w (OMade w (putO xs).1 (putO xs).2) := by
  obtain ⟨i0, hi0', hz0, hz1, hz2⟩ := info_parts Try.info5
  have hm' := hm
  unfold maxLen at hm
  by_cases ho : objB xs = true
  · have e1 : (putO xs).1 = encO xs := by unfold putO; rw [if_pos ho]
    have e2 : (putO xs).2 = 0 := by unfold putO; rw [if_pos ho]
    rw [e1, e2]
    have hobj := (objB_iff xs).1 ho
    have hlen := hb.len
    have HO := Lib.hid ho
    have HL := Lib.hid hlen
    have hn2 : 2 ≤ n := by omega
    have hn16 : n ≤ 16 := by omega
    have hA0 := hobj.2.2.1
    clear e1 e2 hobj hlen ho
    go_enter Try.func18, Try.ntmps18
    go_wp2_with fail
    refine (refObject_any _ _ _ _ _ hb hc hm').mono ?_
    rw [HO.out]
    rintro e w1 ⟨rfl, q, rfl⟩
    have hb1 := hb.drewN q
    have hbel1 : Below w.heap.size w (w.drewN q) := below_drewN q
    obtain ⟨w1, hw1⟩ : ∃ w1, w.drewN q = w1 := ⟨_, rfl⟩
    rw [hw1] at hb1 hbel1 ⊢
    clear hw1
    obtain ⟨b, off, rfl, _, hcl⟩ := hb1.2.2 (by omega)
    have hc0 : w1.cell? ⟨b, off, none⟩ = some (.int .i64 (xs.getD 0 0)) := by simpa using hcl 0 (by omega)
    have hc1 := hcl 1 (by omega)
    have hu0 : 0 ≤ xs.getD 0 0 ∧ xs.getD 0 0 ≤ 268435455 := hA0 _ (by rw [List.getD_eq_getElem?_getD, List.getElem?_eq_getElem (by rw [HL.out]; omega)]; exact List.getElem_mem _)
    have hu1 : 0 ≤ xs.getD 1 0 ∧ xs.getD 1 0 ≤ 268435455 := hA0 _ (by rw [List.getD_eq_getElem?_getD, List.getElem?_eq_getElem (by rw [HL.out]; omega)]; exact List.getElem_mem _)
    have hu2 : 40 * xs.getD 0 0 + xs.getD 1 0 ≤ 268435455 := ((objB_iff xs).1 HO.out).2.2.2.2.2
    obtain ⟨x0, hx0⟩ : ∃ x0, xs.getD 0 0 = x0 := ⟨_, rfl⟩
    obtain ⟨x1, hx1⟩ : ∃ x1, xs.getD 1 0 = x1 := ⟨_, rfl⟩
    rw [hx0] at hc0 hu0 hu2
    rw [hx1] at hc1 hu1 hu2
    have hw := IntWalk.wrap64_in (40 * x0) (by omega)
    have hw' := IntWalk.wrap64_in (40 * x0 + x1) (by omega)
    have HX0 := Lib.hid hx0
    have HX1 := Lib.hid hx1
    clear hx0 hx1 hcl
    have hd0 : ({ heap := w1.heap, tape := w1.tape, drawn := w1.drawn + 1, os := w1.os, output := w1.output } : World).cell? ⟨b, off, none⟩ = some (.int .i64 (x0)) := hc0
    have hd1 : ({ heap := w1.heap, tape := w1.tape, drawn := w1.drawn + 1, os := w1.os, output := w1.output } : World).cell? ⟨b, off + 1, none⟩ = some (.int .i64 (x1)) := hc1
    go_wp2
    have hi0 : (0 : Int) < (n : Int) := by omega
    have hi1 : (1 : Int) < (n : Int) := by omega
    have hj0 : 0 < n := by omega
    have hj1 : 1 < n := by omega
    go_still_tail 8, (by kernel_rfl)
    change wpList _ _ _ _ _ w1.drew
    have hb2 : Ins w1.drew (some ⟨b, off, none⟩) n xs := hb1
    have hbel2 : Below w.heap.size w w1.drew := hbel1.trans ((below_drewN (w := w1) 1).mono hbel1.size)
    obtain ⟨w2, hw2⟩ : ∃ w2, w1.drew = w2 := ⟨_, rfl⟩
    rw [hw2] at hb2 hbel2 ⊢
    clear hw2 hd0 hd1 hc0 hc1 hb1 hbel1
    have hfitx : ∀ j, j < n → Arc (xs.getD j 0) := fun j hj => hA0 _ (by rw [List.getD_eq_getElem?_getD, List.getElem?_eq_getElem (by rw [HL.out]; omega)]; exact List.getElem_mem _)
    have HF := Lib.hid hfitx
    have HA := Lib.hid hA0
    clear hfitx hA0
    go_wp2_with fail
    clear hw hw'
    refine (digits_any _ _ (show Arc _ from ⟨by omega, hu2⟩)).mono ?_
    rintro e w3 ⟨v3, rfl, ho3, hb3⟩
    have hbel3 : Below w.heap.size w w3 := hbel2.trans (hb3.mono hbel2.size)
    have hstart : w3.ownsRow w.heap.size 5 1 v3 (body (ahead xs 0)).length (vals (body (ahead xs 0))) := by
      rw [ahead_zero, HX0.out, HX1.out]
      exact own_base ho3 hbel2.size
    clear ho3 hb3 hb2 hbel2
    go_wp2
    rw [IntWalk.i64_in (40 * x0) (by omega), IntWalk.i64_in (40 * x0 + x1) (by omega)]
    go_loopw [5, 6] (fun x y wr => ∃ k : Nat, y = .int .i64 ((2 + k : Nat) : Int) ∧ 2 + k ≤ n ∧ wr.ownsRow w.heap.size 5 1 x (body (ahead xs k)).length (vals (body (ahead xs k))) ∧ Below w.heap.size w wr) (fun _ y _ => n - (intOf y).toNat)
    case atStart => exact ⟨0, rfl, by omega, hstart, hbel3⟩
    case round =>
      obtain ⟨k, rfl, hk, hrow, hbw⟩ := hrel
      clear hstart hbel3
      by_cases hlt : 2 + k < n
      · obtain ⟨b', off', hA, _, hcl4⟩ := (hb.below hbw).2.2 (by omega)
        cases hA
        have hcell := hcl4 (2 + k) (by omega)
        have harc := HF.out (2 + k) (by omega)
        have hstep := ahead_step (l := xs) (k := k) (by rw [HL.out]; omega)
        have hL := ahead_length HO.out (k := k) (by omega)
        obtain ⟨x, hx⟩ : ∃ x, xs.getD (2 + k) 0 = x := ⟨_, rfl⟩
        rw [hx] at hcell harc hstep
        have HS := Lib.hid hstep
        have hdl := digs_length harc
        clear hcl4 hstep hx
        go_wp2_with fail
        refine (digits_any x _ harc).mono ?_
        rintro e w4 ⟨v4, rfl, ho4, hb4⟩
        obtain ⟨A4, c4, rfl, hc41, hc42, _⟩ := own_shape ho4
        have hby4 := Bys.own ho4 (digs_bytes x)
        have hrow4 := own_below hrow hb4
        have hbw4 : Below w.heap.size w w4 := hbw.trans (hb4.mono hbw.size)
        clear ho4 hb4 hrow hbw
        go_wp2_with (at_builtin; refine wpl_app rfl (.tmp 26) (.tmp 31) 22 rfl w.heap.size 5 i0 (.int .u8 0) Try.underlying22 hi0' hz0 hz1 hz2 rfl u5 _ _ rfl hrow4 A4 (digs x).length c4 (digs x) rfl hby4 (by omega) hbw4.size ?_; intro v' w5 ho5 hg5)
        go_roundw
        case rel => exact ⟨k + 1, by go_num, by omega, by rw [HS.out, List.length_append, vals_append]; exact ho5, hbw4.grown hg5 hbw4.size fun i hi => (hrow4.lt i hi).1⟩
        case measure => simp [intOf]; omega
      · have hend : OMade w (encO xs) 0 (.returned (.tuple #[u5, .int .i64 0])) wr := by
          have e : encO xs = body (ahead xs k) := by unfold encO; rw [ahead_all (by rw [HL.out]; omega)]
          rw [e]
          exact oMade_own hrow (ahead_fit _ _) hbw
        go_wp2
        go_ret2
        exact hend
  · have e1 : putO xs = ([], 22) := by unfold putO; rw [if_neg ho]
    have ho' : objB xs = false := by simpa using ho
    rw [e1]
    clear e1 ho
    go_enter Try.func18, Try.ntmps18
    go_wp2_with fail
    refine (refObject_any _ _ _ _ _ hb hc hm').mono ?_
    rw [ho']
    rintro e w1 ⟨rfl, q, rfl⟩
    go_wp2
    go_ret2
    exact oMade_none _ _ _ (below_drewN q)
end Go.Proofs.Ytcjjhjflijhijaa.intc
