/- The document's power. -/
import Derived.Test.YtlhogjigdmpokaaGreatDoorHc
namespace Go.Proofs.YtlhogjigdmpokaaGreatDoor.vtc
open Go.RowKit Go.Proofs.YtlhogjigdmpokaaGreatDoor.tlvc Go.Proofs.YtlhogjigdmpokaaGreatDoor.tmc Go.Proofs.YtlhogjigdmpokaaGreatDoor.rfc
set_option linter.unusedVariables false
theorem tm_open {B : Nat → Prop} {w : World} {o m : Int} {d : List Int} {ks : List Tm} {c0 c1 c2 c3 : Value} (h : TmC B w (.mk o m d ks) c0 c1 c2 c3) : ∃ A la ca K ck, c0 = .int .i64 o ∧ c1 = .int .i64 m ∧ c2 = .slice A la ca ∧ c3 = .slice K ks.length ck ∧ la ≤ ca ∧ ca ≤ maxLen ∧ Bys w A la d ∧ ks.length ≤ ck ∧ ck ≤ maxLen ∧ I64 o ∧ ∃ cs, HasT K ks.length ks cs w := by
  have h0 := h
  unfold TmC at h
  obtain ⟨e0, ho, e1, _, ⟨A, la, ca, e2, h1, h2, h3, _⟩, K, ck, e3, h4, h5, _⟩ := h
  subst e3
  exact ⟨A, la, ca, K, ck, e0, e1, e2, rfl, h1, h2, h3, h4, h5, ho, (tm_kids h0).2.2⟩
theorem all_step {L : List Tm} {hb : List Bool} {r : List Tm} {i l : Nat} {a : Bool} (hl : r.length = l) (hi : i < l) : (a && (r.take (i + 1)).all (isB L hb)) = ((a && (r.take i).all (isB L hb)) && isB L hb (r.getD i default)) := by
  rw [take_one hl hi, List.all_append, Bool.and_assoc]
  simp
theorem pow_here {L : List Tm} {hb : List Bool} {ks ks2 : List Tm} {n : Nat} {m : Int} {d : List Int} (hb1 : hb.getD n false = true) (hn : L[n]? = some (.mk 7 m d ks2)) : powB L hb ks n = (match withoutF ks ks2 with | some rest => rest.all (isB L hb) | none => false) := by
  unfold powB
  rw [hb1, hn]
  rfl
theorem pow_not {L : List Tm} {hb : List Bool} {ks ks2 : List Tm} {n : Nat} {o m : Int} {d : List Int} (hn : L[n]? = some (.mk o m d ks2)) (ho : o ≠ 7) : powB L hb ks n = false := by
  unfold powB
  rw [hn]
  simp [ho]
theorem pow_less {L : List Tm} {hb : List Bool} {ks : List Tm} {n : Nat} (hb1 : hb.getD n false = false) : powB L hb ks n = false := by
  unfold powB
  rw [hb1]
  rfl
theorem exp_first {L : List Tm} {hb : List Bool} {ks : List Tm} (h : ks.all (isB L hb) = true) : expB L hb ks = true := by unfold expB; rw [h]; rfl
theorem exp_at {L : List Tm} {hb : List Bool} {ks : List Tm} {n : Nat} (hn : n < L.length) (h : powB L hb ks n = true) : expB L hb ks = true := by
  unfold expB
  rw [Bool.or_eq_true]
  exact .inr (List.any_eq_true.2 ⟨n, List.mem_range.2 hn, h⟩)
theorem exp_no {L : List Tm} {hb : List Bool} {ks : List Tm} (h0 : ks.all (isB L hb) = false) (h : ∀ j, j < L.length → powB L hb ks j = false) : expB L hb ks = false := by
  unfold expB
  rw [h0, Bool.false_or]
  refine List.any_eq_false.2 fun n hn => ?_
  rw [h n (List.mem_range.1 hn)]
  simp
theorem wo_parts {L : List Tm} {hb : List Bool} {ks ks2 : List Tm} {n : Nat} {w w' : World} {e : Ending} (h : WoPost ks ks2 w e w') (hp : powB L hb ks n = (match withoutF ks ks2 with | some rest => rest.all (isB L hb) | none => false)) :
    ∃ r A5 lr c5 am0 cs5, e = .returned (.tuple #[.slice A5 lr c5, .bool am0]) ∧ HasT A5 lr r cs5 w' ∧ lr ≤ c5 ∧ c5 ≤ 9223372036854775807 ∧ powB L hb ks n = (am0 && r.all (isB L hb)) ∧ Below w.heap.size w w' := by
  obtain ⟨hbw, ⟨r, A, c, h1, rfl, h3⟩ | ⟨h1, rfl⟩⟩ := h
  · obtain ⟨k1, k2, cs, k3⟩ := h3.has
    rw [h1] at hp
    exact ⟨r, A, r.length, c, true, cs, rfl, k3, k1, by unfold maxLen at k2; omega, by rw [hp, Bool.true_and], hbw⟩
  · rw [h1] at hp
    exact ⟨[], none, 0, 0, false, [], rfl, ⟨rfl, rfl, fun h => by omega⟩, Nat.le_refl _, by omega, by rw [hp, Bool.false_and], hbw⟩
set_option maxRecDepth 100000 in
set_option maxHeartbeats 32000000 in
theorem power_any {Q B : Nat → Prop} {rb : Nat} {ob : Option Nat} {L : List Tm} (hk : Nat) (hb : List Bool) (o m : Int) (d : List Int) (ks : List Tm) (v : Value) (w : World) (hV : RVl Q w rb ob L) (hT : Tru w hk 4 hb) (hl : hb.length = L.length) (hN : L.length ≤ 4096) (hv : TmV B w (.mk o m d ks) v) (hks : ks.length ≤ 100000) :
    Calls Tryz.prog 78 #[.pointer (some ⟨rb, 0, none⟩), .slice (some ⟨hk, 0, none⟩) hb.length hb.length, v] w fun e w' => e = .returned (.bool (expB L hb ks)) ∧ Below w.heap.size w w' := by
  obtain ⟨c0, c1, c2, c3, rfl, hc⟩ := hv
  obtain ⟨A, la, ca, K, ck, rfl, rfl, rfl, rfl, _, _, _, hkc, hkm, _, cs, hK⟩ := tm_open hc
  have hb0 := below_new w (.cells #[.int .i64 o, .int .i64 m, .slice A la ca, .slice K ks.length ck] 43)
  have hq0 := heap_new_ w (.cells #[.int .i64 o, .int .i64 m, .slice A la ca, .slice K ks.length ck] 43)
  obtain ⟨W0, hW0⟩ : ∃ x, w.alloc (.cells #[.int .i64 o, .int .i64 m, .slice A la ca, .slice K ks.length ck] 43) = x := ⟨_, rfl⟩
  rw [hW0] at hb0 hq0
  have hz0 : w.heap.size < W0.heap.size := (Array.getElem?_eq_some_iff.1 hq0).1
  have hV0 := hV.below hb0
  have hT0 := hT.below hb0
  have hK0 := hK.below hb0
  obtain ⟨N, hNN⟩ : ∃ x, L.length = x := ⟨_, rfl⟩
  obtain ⟨lk, hlk⟩ : ∃ x, ks.length = x := ⟨_, rfl⟩
  rw [hNN] at hl hN
  have hbox : ∀ W, Below W0.heap.size W0 W → W.cell? ⟨w.heap.size, 3, none⟩ = some (.slice K lk ck) := fun W hW => by
    have h := (hW.block w.heap.size hz0).trans hq0
    rw [← hlk]
    exact (Lib.cell_of_heap h _).trans rfl
  have his : ∀ (B : Nat → Prop) (W : World) (t : Tm) (v : Value), Below W0.heap.size W0 W → TmV B W t v → Calls Tryz.prog 59 #[.pointer (some ⟨rb, 0, none⟩), .slice (some ⟨hk, 0, none⟩) N N, v] W fun e w' => e = .returned (.bool (isB L hb t)) ∧ Below W.heap.size W w' := fun B W t v hW ht => by
    have := ris_any hk hb t v W (hV0.below hW) (hT0.below hW) (by rw [hl, hNN]) (by rw [hNN]; exact hN) ht
    rwa [hl] at this
  rw [hlk] at hkc hks hK0 hW0 ⊢
  rw [hl]
  have HIS := Lib.hid his
  have HBX := Lib.hid hbox
  have H0 := Lib.hid (And.intro hV0 (And.intro hT0 (And.intro hK0 (And.intro hb0 (And.intro hlk (And.intro hNN (And.intro hl (And.intro hkc hkm))))))))
  have hk9 : ck ≤ 9223372036854775807 := by unfold maxLen at hkm; omega
  obtain ⟨ANS, hANS⟩ : ∃ x, expB L hb ks = x := ⟨_, rfl⟩
  rw [hANS]
  have HA := Lib.hid hANS
  clear his hbox hV0 hT0 hK0 hK hb0 hq0 hz0 hlk hNN hl hV hT hc hkm hANS
  go_enter Tryz.func78, Tryz.ntmps78
  go_upto_region 1 with fail
  (try rw [hW0])
  clear hW0
  go_wp2_with fail
  go_loopg [7, 8] (lk + 1) (fun gk s7 s8 wx => ∃ (i : Nat) (bq : Bool), s7 = .bool bq ∧ s8 = .int .i64 (i : Nat) ∧ i ≤ lk ∧ lk - i < gk ∧ Hid (bq = (ks.take i).all (isB L hb)) ∧ Hid (Below W0.heap.size W0 wx))
  case atStart => exact ⟨0, true, rfl, rfl, by omega, by omega, Lib.hid rfl, Lib.hid (Below.refl _ _)⟩
  case round =>
    obtain ⟨i, bq, rfl, rfl, hi, hgk, HQ, HW⟩ := hrel
    have x3 := HBX.out wr HW.out
    by_cases hlt : i < lk
    · have hltz : (i : Int) < (lk : Int) := by omega
      obtain ⟨ga, rfl⟩ : ∃ g', gk = g' + 1 := ⟨gk - 1, by omega⟩
      obtain ⟨g, off, d0, d1, d2, d3, rfl, e0, e1, e2, e3, hd⟩ := (H0.out.2.2.1.below HW.out).at hlt
      have HF := Lib.hid (And.intro (show i + 1 ≤ lk from hlt) (show lk - (i + 1) < ga by omega))
      have HC := Lib.hid (HIS.out _ wr _ (.agg #[d0, d1, d2, d3]) HW.out ⟨_, _, _, _, rfl, hd⟩)
      have hst := all_step (L := L) (hb := hb) (a := true) H0.out.2.2.2.2.1 hlt
      rw [Bool.true_and, Bool.true_and, ← HQ.out] at hst
      obtain ⟨one, hone⟩ : ∃ x, isB L hb (ks.getD i default) = x := ⟨_, rfl⟩
      rw [hone] at hst HC
      have HS := Lib.hid hst
      clear hd hst hone hgk
      go_wp2_with fail
      refine HC.out.mono ?_
      rintro e w3 ⟨rfl, hb3⟩
      have HB := Lib.hid (HW.out.trans (hb3.mono HW.out.size))
      clear hb3 HC e0 e1 e2 e3
      cases bq <;> cases one
      all_goals
        go_wp2_with fail
        go_roundg ga
        case measure => omega
        case rel => exact ⟨i + 1, _, rfl, by go_num, HF.out.1, HF.out.2, Lib.hid HS.out.symm, HB⟩
    · obtain rfl : lk = i := by omega
      have hltz : ¬ (lk : Int) < (lk : Int) := by omega
      have hq := HQ.out
      rw [List.take_of_length_le (by rw [H0.out.2.2.2.2.1]; exact Nat.le_refl _)] at hq
      cases bq
      · have HQ2 := Lib.hid hq.symm
        clear hq HQ hgk
        go_wp2_with fail
        clear x3
        go_loopg [10] (N + 1) (fun gk s10 wx => ∃ (n : Nat), s10 = .int .i64 (n : Nat) ∧ n ≤ N ∧ N - n < gk ∧ Hid (∀ j, j < n → powB L hb ks j = false) ∧ Hid (Below W0.heap.size W0 wx))
        case atStart => exact ⟨0, rfl, by omega, by omega, Lib.hid fun j hj => absurd hj (Nat.not_lt_zero _), HW⟩
        case round =>
          obtain ⟨n, rfl, hn, hgk, HPN, HB⟩ := hrel
          obtain ⟨A9, c9, x0, x2, x33, _, x4⟩ := (H0.out.1.below HB.out).at
          rw [H0.out.2.2.2.2.2.1] at x0 x2
          by_cases hlt : n < N
          · have hltz : (n : Int) < (N : Int) := by omega
            have hn0 : (0 : Int) ≤ (n : Int) := by omega
            obtain ⟨ga, rfl⟩ : ∃ g', gk = g' + 1 := ⟨gk - 1, by omega⟩
            have HF := Lib.hid (And.intro (show n + 1 ≤ N from hlt) (show N - (n + 1) < ga by omega))
            have z0 := (H0.out.2.1.below HB.out).at (i := n) (by rw [H0.out.2.2.2.2.2.2.1]; exact hlt)
            obtain ⟨bn, hbn⟩ : ∃ x, hb.getD n false = x := ⟨_, rfl⟩
            rw [hbn] at z0
            clear hgk
            cases bn
            · have HP := Lib.hid (pow_less (L := L) (ks := ks) hbn)
              clear hbn x4
              clear x33
              go_wp2_with fail
              go_roundg ga
              case measure => omega
              case rel => exact ⟨n + 1, by go_num, HF.out.1, HF.out.2, Lib.hid fun j hj => by
                rcases Nat.lt_or_ge j n with h | h
                · exact HPN.out j h
                · obtain rfl : j = n := by omega
                  exact HP.out, HB.out⟩
            · obtain ⟨t, ht⟩ : ∃ k, L[n]? = some k := ⟨_, List.getElem?_eq_getElem (by rw [H0.out.2.2.2.2.2.1]; exact hlt)⟩
              obtain ⟨g9, d0, d1, d2, d3, rfl, e0, e1, e2, e3, hd⟩ := x4 n t ht
              obtain ⟨o2, m2, dd2, ks2⟩ := t
              obtain ⟨A2, la2, ca2, K2, ck2, rfl, rfl, rfl, rfl, _, _, _, hkc2, hkm2, _, cs2, hK2⟩ := tm_open hd
              clear x4 hd
              by_cases ho7 : o2 = 7
              · subst ho7
                have hp := pow_here (ks := ks) hbn ht
                obtain ⟨l2, hl2⟩ : ∃ x, ks2.length = x := ⟨_, rfl⟩
                rw [hl2] at e3 hkc2 hK2
                have HC := Lib.hid fun W (hW : Below wr.heap.size wr W) => without_any ks ks2 K lk ck cs K2 l2 ck2 cs2 W ((H0.out.2.2.1.below HB.out).below hW) (hK2.below hW) hks hkc H0.out.2.2.2.2.2.2.2.2 hkc2 hkm2
                have x3 := HBX.out wr HB.out
                have mixed : Tryz.prog.follows Departure.mixedOrders = true := by kernel_rfl
                have HP0 := Lib.hid hp
                clear hbn ht hp hkc2 hkm2 hK2 hl2
                go_wp2_with fail
                try dsimp only
                refine wp_region_noPanic ?_
                refine wp_region_held_drew (S := fun wx : World => wx.cell? ⟨rb, 0, none⟩ = some (.slice (some ⟨g9, 0, none⟩) N c9) ∧ wx.cell? ⟨w.heap.size, 3, none⟩ = some (.slice K lk ck) ∧ wx.cell? ⟨g9, n * 4 + 3, none⟩ = some (.slice K2 l2 ck2)) mixed ⟨x0, x3, e3⟩ (fun hHeld => ?_)
                have hbd := below_drew wr
                obtain ⟨wd, hwd⟩ : ∃ x, wr.drew = x := ⟨_, rfl⟩
                rw [hwd] at hHeld hbd ⊢
                clear hwd
                (refine wpAnyH_take (i := 0) (oi := ⟨_, _, _, _, _, _⟩) (v := ?_) rfl (by kernel_rfl) (by kernel_rfl) (by kernel_rfl) (fun _ _ _ h => h) (Or.inl ⟨by rfl, ?_⟩) (by assumption) ?_; rotate_left; focus (intro wS hSw; (first | obtain ⟨c1, c2, c3⟩ := hSw | skip); go_simp; (try with_reducible rfl); done); (try simp only [Act.put, List.setIfInBounds_toArray, List.set_cons_zero, List.set_cons_succ]))
                (refine wpAnyH_take (i := 1) (oi := ⟨_, _, _, _, _, _⟩) (v := ?_) rfl (by kernel_rfl) (by kernel_rfl) (by kernel_rfl) (fun _ _ _ h => h) (Or.inl ⟨by rfl, ?_⟩) (by assumption) ?_; rotate_left; focus (intro wS hSw; (first | obtain ⟨c1, c2, c3⟩ := hSw | skip); go_simp; (try with_reducible rfl); done); (try simp only [Act.put, List.setIfInBounds_toArray, List.set_cons_zero, List.set_cons_succ]))
                (refine wpAnyH_take (i := 2) (oi := ⟨_, _, _, _, _, _⟩) (v := ?_) rfl (by kernel_rfl) (by kernel_rfl) (by kernel_rfl) (fun _ _ _ h => h) (Or.inl ⟨by rfl, ?_⟩) (by assumption) ?_; rotate_left; focus (intro wS hSw; (first | obtain ⟨c1, c2, c3⟩ := hSw | skip); go_simp; (try with_reducible rfl); done); (try simp only [Act.put, List.setIfInBounds_toArray, List.set_cons_zero, List.set_cons_succ]))
                (refine wpAnyH_take (i := 3) (oi := ⟨_, _, _, _, _, _⟩) (v := ?_) rfl (by kernel_rfl) (by kernel_rfl) (by kernel_rfl) (fun _ _ _ h => h) (Or.inl ⟨by rfl, ?_⟩) (by assumption) ?_; rotate_left; focus (intro wS hSw; (first | obtain ⟨c1, c2, c3⟩ := hSw | skip); go_simp; (try with_reducible rfl); done); (try simp only [Act.put, List.setIfInBounds_toArray, List.set_cons_zero, List.set_cons_succ]))
                (refine wpAnyH_take (i := 4) (oi := ⟨_, _, _, _, _, _⟩) (v := ?_) rfl (by kernel_rfl) (by kernel_rfl) (by kernel_rfl) (fun _ _ _ h => h) (Or.inl ⟨by rfl, ?_⟩) (by assumption) ?_; rotate_left; focus (intro wS hSw; (first | obtain ⟨c1, c2, c3⟩ := hSw | skip); go_simp; (try with_reducible rfl); done); (try simp only [Act.put, List.setIfInBounds_toArray, List.set_cons_zero, List.set_cons_succ]))
                (refine wpAnyH_take (i := 5) (oi := ⟨_, _, _, _, _, _⟩) (v := ?_) rfl (by kernel_rfl) (by kernel_rfl) (by kernel_rfl) (fun _ _ _ h => h) (Or.inl ⟨by rfl, ?_⟩) (by assumption) ?_; rotate_left; focus (intro wS hSw; (first | obtain ⟨c1, c2, c3⟩ := hSw | skip); go_simp; (try with_reducible rfl); done); (try simp only [Act.put, List.setIfInBounds_toArray, List.set_cons_zero, List.set_cons_succ]))
                (refine wpAnyH_take (i := 6) (oi := ⟨_, _, _, _, _, _⟩) (v := ?_) rfl (by kernel_rfl) (by kernel_rfl) (by kernel_rfl) (fun _ _ _ h => h) (Or.inl ⟨by rfl, ?_⟩) (by assumption) ?_; rotate_left; focus (intro wS hSw; (first | obtain ⟨c1, c2, c3⟩ := hSw | skip); go_simp; (try with_reducible rfl); done); (try simp only [Act.put, List.setIfInBounds_toArray, List.set_cons_zero, List.set_cons_succ]))
                (refine wpAnyH_take (i := 7) (oi := ⟨_, _, _, _, _, _⟩) (v := ?_) rfl (by kernel_rfl) (by kernel_rfl) (by kernel_rfl) (fun _ _ _ h => h) (Or.inl ⟨by rfl, ?_⟩) (by assumption) ?_; rotate_left; focus (intro wS hSw; (first | obtain ⟨c1, c2, c3⟩ := hSw | skip); go_simp; (try with_reducible rfl); done); (try simp only [Act.put, List.setIfInBounds_toArray, List.set_cons_zero, List.set_cons_succ]))
                (refine wpAnyH_take (i := 8) (oi := ⟨_, _, _, _, _, _⟩) (v := ?_) rfl (by kernel_rfl) (by kernel_rfl) (by kernel_rfl) (fun _ _ _ h => h) (Or.inl ⟨by rfl, ?_⟩) (by assumption) ?_; rotate_left; focus (intro wS hSw; (first | obtain ⟨c1, c2, c3⟩ := hSw | skip); go_simp; (try with_reducible rfl); done); (try simp only [Act.put, List.setIfInBounds_toArray, List.set_cons_zero, List.set_cons_succ]))
                (refine wpAnyH_take (i := 9) (oi := ⟨_, _, _, _, _, _⟩) (v := ?_) rfl (by kernel_rfl) (by kernel_rfl) (by kernel_rfl) (fun _ _ _ h => h) (Or.inl ⟨by rfl, ?_⟩) (by assumption) ?_; rotate_left; focus (intro wS hSw; (first | obtain ⟨c1, c2, c3⟩ := hSw | skip); go_simp; (try with_reducible rfl); done); (try simp only [Act.put, List.setIfInBounds_toArray, List.set_cons_zero, List.set_cons_succ]))
                refine wpAnyH_ready (rs := [10]) (by kernel_rfl) (by simp) ?_
                refine AllReadyH.cons (o := ⟨_, _, _, _, _, _⟩) rfl (fun KK hKK => ?_) AllReadyH.nil
                go_simp
                have HBD := Lib.hid (HB.out.trans (hbd.mono HB.out.size))
                refine (HC.out wd hbd).mono ?_
                rintro e w3 hpost
                obtain ⟨r, A5, lr, c5, am0, cs5, rfl, h5, hlr, hc5, hpw, hb3⟩ := wo_parts hpost HP0.out
                have HB3 := Lib.hid (HBD.out.trans (hb3.mono HBD.out.size))
                have H5 := Lib.hid h5
                have HPW := Lib.hid hpw
                have y0 := (H0.out.1.below HB3.out)
                clear hpost h5 hpw
                dsimp only
                have ys := cell_on (blw hbd hb3) x0
                have y3 := cell_on (blw hbd hb3) x3
                have y4 := cell_on (blw hbd hb3) e3
                clear hb3 y0
                refine hKK.out _ _ ⟨ys, y3, y4⟩ (fun hHeld2 => ?_)
                clear hKK KK hHeld
                have hHeld := hHeld2
                clear hHeld2
                try simp only [Act.put, List.setIfInBounds_toArray, List.set_cons_zero, List.set_cons_succ]
                (refine wpAnyH_take (i := 11) (oi := ⟨_, _, _, _, _, _⟩) (v := ?_) rfl (by kernel_rfl) (by kernel_rfl) (by kernel_rfl) (fun _ _ _ h => h) (Or.inl ⟨by rfl, ?_⟩) (by assumption) ?_; rotate_left; focus (intro wS hSw; (first | obtain ⟨c1, c2, c3⟩ := hSw | skip); go_simp; (try with_reducible rfl); done); (try simp only [Act.put, List.setIfInBounds_toArray, List.set_cons_zero, List.set_cons_succ]))
                (refine wpAnyH_take (i := 12) (oi := ⟨_, _, _, _, _, _⟩) (v := ?_) rfl (by kernel_rfl) (by kernel_rfl) (by kernel_rfl) (fun _ _ _ h => h) (Or.inl ⟨by rfl, ?_⟩) (by assumption) ?_; rotate_left; focus (intro wS hSw; (first | obtain ⟨c1, c2, c3⟩ := hSw | skip); go_simp; (try with_reducible rfl); done); (try simp only [Act.put, List.setIfInBounds_toArray, List.set_cons_zero, List.set_cons_succ]))
                (refine wpAnyH_take (i := 13) (oi := ⟨_, _, _, _, _, _⟩) (v := ?_) rfl (by kernel_rfl) (by kernel_rfl) (by kernel_rfl) (fun _ _ _ h => h) (Or.inl ⟨by rfl, ?_⟩) (by assumption) ?_; rotate_left; focus (intro wS hSw; (first | obtain ⟨c1, c2, c3⟩ := hSw | skip); go_simp; (try with_reducible rfl); done); (try simp only [Act.put, List.setIfInBounds_toArray, List.set_cons_zero, List.set_cons_succ]))
                (refine wpAnyH_take (i := 14) (oi := ⟨_, _, _, _, _, _⟩) (v := ?_) rfl (by kernel_rfl) (by kernel_rfl) (by kernel_rfl) (fun _ _ _ h => h) (Or.inl ⟨by rfl, ?_⟩) (by assumption) ?_; rotate_left; focus (intro wS hSw; (first | obtain ⟨c1, c2, c3⟩ := hSw | skip); go_simp; (try with_reducible rfl); done); (try simp only [Act.put, List.setIfInBounds_toArray, List.set_cons_zero, List.set_cons_succ]))
                (refine wpAnyH_take (i := 15) (oi := ⟨_, _, _, _, _, _⟩) (v := ?_) rfl (by kernel_rfl) (by kernel_rfl) (by kernel_rfl) (fun _ _ _ h => h) (Or.inl ⟨by rfl, ?_⟩) (by assumption) ?_; rotate_left; focus (intro wS hSw; (first | obtain ⟨c1, c2, c3⟩ := hSw | skip); go_simp; (try with_reducible rfl); done); (try simp only [Act.put, List.setIfInBounds_toArray, List.set_cons_zero, List.set_cons_succ]))
                clear x0 x2 x3 x33 e0 e1 e2 e3 z0 HB ys y3 y4 hbd hHeld HC HP0 HBD
                refine wpAnyH_done (by kernel_rfl) ?_ _
                refine NoPanic.normal ?_
                go_wp2_with fail
                go_loopg [12, 13] (lr + 1) (fun gk s12 s13 wx => ∃ (i : Nat) (am : Bool), s12 = .bool am ∧ s13 = .int .i64 (i : Nat) ∧ i ≤ lr ∧ lr - i < gk ∧ Hid (am = (am0 && (r.take i).all (isB L hb))) ∧ Hid (Below w3.heap.size w3 wx))
                case atStart => exact ⟨0, am0, rfl, rfl, by omega, by omega, Lib.hid (by simp), Lib.hid (Below.refl _ _)⟩
                case round =>
                  obtain ⟨i, am, rfl, rfl, hi, hgk, HM, HV⟩ := hrel
                  have HB := Lib.hid (HB3.out.trans (HV.out.mono HB3.out.size))
                  cases am
                  · have hp : powB L hb ks n = false := by
                      rw [HPW.out]
                      cases am0
                      · rfl
                      · rw [Bool.true_and]
                        have hm := HM.out
                        rw [Bool.true_and] at hm
                        cases hra : r.all (isB L hb) with
                        | false => rfl
                        | true =>
                          have h1 : (r.take i).all (isB L hb) = true := List.all_eq_true.2 fun x hx => List.all_eq_true.1 hra x (List.mem_of_mem_take hx)
                          rw [h1] at hm
                          cases hm
                    have HP := Lib.hid hp
                    clear hp hgk
                    by_cases hil : i < lr
                    · have hilz : (i : Int) < (lr : Int) := by omega
                      clear HM HV
                      go_wp2_with fail
                      go_roundg ga
                      case measure => omega
                      case rel => exact ⟨n + 1, by go_num, HF.out.1, HF.out.2, Lib.hid fun j hj => by
                        rcases Nat.lt_or_ge j n with h | h
                        · exact HPN.out j h
                        · obtain rfl : j = n := by omega
                          exact HP.out, HB.out⟩
                    · obtain rfl : lr = i := by omega
                      have hilz : ¬ (lr : Int) < (lr : Int) := by omega
                      clear HM HV
                      go_wp2_with fail
                      go_roundg ga
                      case measure => omega
                      case rel => exact ⟨n + 1, by go_num, HF.out.1, HF.out.2, Lib.hid fun j hj => by
                        rcases Nat.lt_or_ge j n with h | h
                        · exact HPN.out j h
                        · obtain rfl : j = n := by omega
                          exact HP.out, HB.out⟩
                  · by_cases hil : i < lr
                    · have hilz : (i : Int) < (lr : Int) := by omega
                      obtain ⟨gk', rfl⟩ : ∃ g', gk = g' + 1 := ⟨gk - 1, by omega⟩
                      obtain ⟨g, off, d0, d1, d2, d3, rfl, e0, e1, e2, e3, hd⟩ := (H5.out.below HV.out).at hil
                      have HN := Lib.hid (And.intro (show i + 1 ≤ lr from hil) (show lr - (i + 1) < gk' by omega))
                      have HC := Lib.hid (HIS.out _ wr _ (.agg #[d0, d1, d2, d3]) HB.out ⟨_, _, _, _, rfl, hd⟩)
                      have hst := all_step (L := L) (hb := hb) (a := am0) H5.out.len hil
                      rw [← HM.out, Bool.true_and] at hst
                      obtain ⟨one, hone⟩ : ∃ x, isB L hb (r.getD i default) = x := ⟨_, rfl⟩
                      rw [hone] at hst HC
                      have HS := Lib.hid hst
                      clear hd hst hone hgk
                      go_wp2_with fail
                      refine HC.out.mono ?_
                      rintro e w4 ⟨rfl, hb4⟩
                      have HE := Lib.hid (HV.out.trans (hb4.mono HV.out.size))
                      clear hb4 HC e0 e1 e2 e3
                      go_wp2_with fail
                      go_roundg gk'
                      case measure => omega
                      case rel => exact ⟨i + 1, one, rfl, by go_num, HN.out.1, HN.out.2, Lib.hid HS.out.symm, HE⟩
                    · obtain rfl : lr = i := by omega
                      have hilz : ¬ (lr : Int) < (lr : Int) := by omega
                      have hm := HM.out
                      rw [List.take_of_length_le (by rw [H5.out.len]; exact Nat.le_refl _), ← HPW.out] at hm
                      have hans : ANS = true := by rw [← HA.out]; exact exp_at (by rw [H0.out.2.2.2.2.2.1]; exact hlt) hm.symm
                      have HE := Lib.hid (And.intro hans (H0.out.2.2.2.1.trans (HB.out.mono H0.out.2.2.2.1.size)))
                      clear hm hans hgk
                      go_wp2_with fail
                      go_ret
                      exact ⟨by rw [HE.out.1]; rfl, HE.out.2⟩
              · have HP := Lib.hid (pow_not (hb := hb) (ks := ks) ht ho7)
                have ho7z : ¬ (7 : Int) = o2 := fun h => ho7 h.symm
                clear ht hbn hkc2 hkm2 hK2
                clear x33
                go_wp2_with fail
                go_roundg ga
                case measure => omega
                case rel => exact ⟨n + 1, by go_num, HF.out.1, HF.out.2, Lib.hid fun j hj => by
                  rcases Nat.lt_or_ge j n with h | h
                  · exact HPN.out j h
                  · obtain rfl : j = n := by omega
                    exact HP.out, HB.out⟩
          · obtain rfl : N = n := by omega
            have hltz : ¬ (N : Int) < (N : Int) := by omega
            have hans : ANS = false := by rw [← HA.out]; exact exp_no HQ2.out fun j hj => HPN.out j (by rw [H0.out.2.2.2.2.2.1] at hj; exact hj)
            have HE := Lib.hid (And.intro hans (H0.out.2.2.2.1.trans (HB.out.mono H0.out.2.2.2.1.size)))
            clear hans x4 hgk
            go_wp2_with fail
            go_ret
            exact ⟨by rw [HE.out.1]; rfl, HE.out.2⟩
      · have hans : ANS = true := by rw [← HA.out]; exact exp_first hq.symm
        have HE := Lib.hid (And.intro hans (H0.out.2.2.2.1.trans (HW.out.mono H0.out.2.2.2.1.size)))
        clear hans hq hgk
        go_wp2_with fail
        go_ret
        exact ⟨by rw [HE.out.1]; rfl, HE.out.2⟩
end Go.Proofs.YtlhogjigdmpokaaGreatDoor.vtc
