/- Right: the document's. -/
import Derived.Test.YtlhogjigdmpokaaGreatDoorTd
namespace Go.Proofs.YtlhogjigdmpokaaGreatDoor.tmc
open Go.RowKit Go.Proofs.YtlhogjigdmpokaaGreatDoor.tlvc
set_option linter.unusedVariables false
set_option linter.unusedSimpArgs false
def RRights (k : Tm) : Prop := ∀ (C : Nat → Prop) (v : Value) (deep : Nat) (w : World), deep ≤ 16 → TmV C w k v → Calls Tryz.prog 73 #[v, .int .i64 deep] w fun e w' => e = .returned (.bool (rightF k deep)) ∧ Below w.heap.size w w'
theorem alone_kids {o m : Int} {d k : Nat} (h : kidsB o k = false) : aloneB o m d k = false := by
  unfold kidsB at h
  unfold aloneB
  by_cases h1 : o = 1
  · rw [if_pos (.inl h1)] at h; rw [if_pos h1]; exact decide_eq_false (fun x => of_decide_eq_false h x.1)
  rw [if_neg h1]
  by_cases h2 : o = 2
  · rw [if_neg (by omega), if_pos (.inl h2)] at h; rw [if_pos h2]; exact decide_eq_false (fun x => of_decide_eq_false h x.1)
  rw [if_neg h2]
  by_cases h3 : o = 3 ∨ o = 4 ∨ o = 6
  · rw [if_neg (by omega), if_pos (.inr h3)] at h; rw [if_pos h3]; exact decide_eq_false (fun x => of_decide_eq_false h x.1)
  rw [if_neg h3]
  by_cases h5 : o = 5
  · rw [if_pos (.inr h5)] at h; rw [if_pos h5]; exact decide_eq_false (fun x => of_decide_eq_false h x.1)
  rw [if_neg h5]
  by_cases h7 : o = 7
  · rw [if_neg (by omega), if_neg (by omega), if_pos h7] at h; rw [if_pos h7]; exact decide_eq_false (fun x => of_decide_eq_false h x.1)
  rw [if_neg h7]
theorem alone_split {o m : Int} {d k : Nat} (h : kidsB o k = true) : aloneB o m d k = decide (d ≤ 8192 ∧ (o = 1 → 0 ≤ m ∧ m ≤ 1099511627776) ∧ (o ≠ 1 → m = 0) ∧ (0 < d → o = 3 ∨ o = 4 ∨ o = 5 ∨ o = 6)) := by
  unfold kidsB at h
  unfold aloneB
  by_cases h1 : o = 1
  · rw [if_pos (.inl h1)] at h; have h := of_decide_eq_true h; rw [if_pos h1, decide_eq_decide]; omega
  rw [if_neg h1]
  by_cases h2 : o = 2
  · rw [if_neg (by omega), if_pos (.inl h2)] at h; have h := of_decide_eq_true h; rw [if_pos h2, decide_eq_decide]; omega
  rw [if_neg h2]
  by_cases h3 : o = 3 ∨ o = 4 ∨ o = 6
  · rw [if_neg (by omega), if_pos (.inr h3)] at h; have h := of_decide_eq_true h; rw [if_pos h3, decide_eq_decide]; omega
  rw [if_neg h3]
  by_cases h5 : o = 5
  · rw [if_pos (.inr h5)] at h; have h := of_decide_eq_true h; rw [if_pos h5, decide_eq_decide]; omega
  rw [if_neg h5]
  by_cases h7 : o = 7
  · rw [if_neg (by omega), if_neg (by omega), if_pos h7] at h; have h := of_decide_eq_true h; rw [if_pos h7, decide_eq_decide]; omega
  · rw [if_neg (by omega), if_neg (by omega), if_neg h7] at h; exact absurd h (by simp)
set_option maxRecDepth 100000 in
set_option maxHeartbeats 32000000 in
theorem rrights_step (o m : Int) (d : List Int) (ks : List Tm) (hk : ∀ k ∈ ks, RRights k) : RRights (.mk o m d ks) := by
  intro C v deep w hou hv
  obtain ⟨c0, c1, c2, c3, rfl, hnd⟩ := hv
  have hnd0 := hnd
  unfold TmC at hnd
  obtain ⟨rfl, ho, rfl, hm, ⟨A, la, ca, rfl, hA1, hA2, hA3, _⟩, K, ck, rfl, hK1, hK2, hK3⟩ := hnd
  obtain ⟨W0, hW0⟩ : ∃ x, w.alloc (.cells #[.int .i64 o, .int .i64 m, .slice A la ca, .slice K ks.length ck] 43) = x := ⟨_, rfl⟩
  have hz : w.heap.size < W0.heap.size := by rw [← hW0]; simp
  have hbw : Below w.heap.size w W0 := by rw [← hW0]; exact below_new _ _
  have p0 : W0.heap[w.heap.size]? = some (.cells #[.int .i64 o, .int .i64 m, .slice A la ca, .slice K ks.length ck] 43) := by rw [← hW0]; exact heap_new_ _ _
  obtain ⟨a0, a1, a2, a3⟩ := box4 (Below.refl W0.heap.size W0) p0 hz
  have hbx : ∀ W, Below W0.heap.size W0 W → W.cell? ⟨w.heap.size, 0, none⟩ = some (.int .i64 o) ∧ W.cell? ⟨w.heap.size, 1, none⟩ = some (.int .i64 m) ∧ W.cell? ⟨w.heap.size, 2, none⟩ = some (.slice A la ca) ∧ W.cell? ⟨w.heap.size, 3, none⟩ = some (.slice K ks.length ck) := fun W hW => box4 hW p0 hz
  have hkd := refKids_any C o m d ks (.agg #[.int .i64 o, .int .i64 m, .slice A la ca, .slice K ks.length ck]) W0 ⟨_, _, _, _, rfl, TmC.below hbw _ _ _ _ _ hnd0⟩
  have hres : rightF (.mk o m d ks) deep = (decide (deep < 16) && aloneB o m d.length ks.length && rightL ks (deep + 1) && sortedL ks) := by conv => lhs; unfold rightF
  have hal : kidsB o ks.length = true → aloneB o m d.length ks.length = decide (d.length ≤ 8192 ∧ (o = 1 → 0 ≤ m ∧ m ≤ 1099511627776) ∧ (o ≠ 1 → m = 0) ∧ (0 < d.length → o = 3 ∨ o = 4 ∨ o = 5 ∨ o = 6)) := alone_split
  have haf : kidsB o ks.length = false → aloneB o m d.length ks.length = false := alone_kids
  rw [hres]
  rw [hA3.1] at hal haf ⊢
  obtain ⟨al, hal2⟩ : ∃ x, aloneB o m la ks.length = x := ⟨_, rfl⟩
  rw [hal2] at hal haf ⊢
  obtain ⟨kb, hkb⟩ : ∃ x, kidsB o ks.length = x := ⟨_, rfl⟩
  rw [hkb] at hal haf hkd
  obtain ⟨RES, hRES⟩ : ∃ x, (decide (deep < 16) && al && rightL ks (deep + 1) && sortedL ks) = x := ⟨_, rfl⟩
  rw [hRES]
  have HR0 := Lib.hid hRES
  have HK := Lib.hid hkd
  have HBX := Lib.hid hbx
  have HBW := Lib.hid hbw
  have HO := Lib.hid hk
  have HK3 := Lib.hid hK3
  obtain ⟨lk, hlk⟩ : ∃ x, ks.length = x := ⟨_, rfl⟩
  rw [hlk] at hK1 hW0 a3 HBX HK ⊢
  clear hres hal2 hkb hRES hkd hbx hbw hk hK3 hnd0 hA3 p0 hz
  have hK9 : ck ≤ 9223372036854775807 := by unfold maxLen at hK2; omega
  have hA9 : ca ≤ 9223372036854775807 := by unfold maxLen at hA2; omega
  by_cases hd16 : deep < 16
  · have hltz : ¬ (16 : Int) ≤ (deep : Int) := by omega
    cases kb with
    | false =>
      have hal3 : al = false := haf rfl
      clear hal haf
      subst hal3
      have hE : RES = false := by rw [← HR0.out, decide_eq_true hd16]; rfl
      clear HR0 HO HK3
      subst hE
      go_enter Tryz.func73, Tryz.ntmps73
      go_wp2_with fail
      refine HK.out.mono ?_
      rintro e w1 ⟨rfl, hb1⟩
      obtain ⟨f0, f1, f2, f3⟩ := HBX.out _ hb1
      clear HK hW0 a0 a1 a2 a3
      have hend := HBW.out.trans (hb1.mono HBW.out.size)
      clear HBX HBW
      go_wp2
      go_ret
      exact ⟨rfl, hend⟩
    | true =>
      have hal3 := hal rfl
      clear hal haf
      by_cases hla : la ≤ 8192
      · have hlaz : ¬ (8192 : Int) < (la : Int) := by omega
        by_cases h1 : o = 1
        · by_cases hm0 : m < 0
          · have hf : al = false := by rw [hal3]; exact decide_eq_false (fun h => by have := h.2.1 h1; omega)
            clear hal3
            subst hf h1
            have hE : RES = false := by rw [← HR0.out, decide_eq_true hd16]; rfl
            clear HR0 HO HK3
            subst hE
            go_enter Tryz.func73, Tryz.ntmps73
            go_wp2_with fail
            refine HK.out.mono ?_
            rintro e w1 ⟨rfl, hb1⟩
            obtain ⟨f0, f1, f2, f3⟩ := HBX.out _ hb1
            clear HK hW0 a0 a1 a2 a3
            have hend := HBW.out.trans (hb1.mono HBW.out.size)
            clear HBX HBW
            go_wp2
            go_ret
            exact ⟨rfl, hend⟩
          · by_cases hm1 : 1099511627776 < m
            · have hf : al = false := by rw [hal3]; exact decide_eq_false (fun h => by have := h.2.1 h1; omega)
              clear hal3
              subst hf h1
              have hE : RES = false := by rw [← HR0.out, decide_eq_true hd16]; rfl
              clear HR0 HO HK3
              subst hE
              go_enter Tryz.func73, Tryz.ntmps73
              go_wp2_with fail
              refine HK.out.mono ?_
              rintro e w1 ⟨rfl, hb1⟩
              obtain ⟨f0, f1, f2, f3⟩ := HBX.out _ hb1
              clear HK hW0 a0 a1 a2 a3
              have hend := HBW.out.trans (hb1.mono HBW.out.size)
              clear HBX HBW
              go_wp2
              go_ret
              exact ⟨rfl, hend⟩
            · by_cases hl0 : 0 < la
              · have hl0z : (0 : Int) < (la : Int) := by omega
                have hf : al = false := by rw [hal3]; exact decide_eq_false (fun h => by have := h.2.2.2 hl0; omega)
                clear hal3
                subst hf h1
                have hE : RES = false := by rw [← HR0.out, decide_eq_true hd16]; rfl
                clear HR0 HO HK3
                subst hE
                go_enter Tryz.func73, Tryz.ntmps73
                go_wp2_with fail
                refine HK.out.mono ?_
                rintro e w1 ⟨rfl, hb1⟩
                obtain ⟨f0, f1, f2, f3⟩ := HBX.out _ hb1
                clear HK hW0 a0 a1 a2 a3
                have hend := HBW.out.trans (hb1.mono HBW.out.size)
                clear HBX HBW
                go_wp2
                go_ret
                exact ⟨rfl, hend⟩
              · have hl0z : ¬ (0 : Int) < (la : Int) := by omega
                have ht : al = true := by rw [hal3]; exact decide_eq_true ⟨hla, fun _ => ⟨by omega, by omega⟩, fun h => absurd h1 h, fun h => absurd h hl0⟩
                have HR : Hid ((rightL (ks.drop 0) (deep + 1) && sortedL (ks.drop (0 - 1))) = RES) := Lib.hid (by have := HR0.out; rw [decide_eq_true hd16, ht] at this; exact this)
                clear hal3 ht HR0
                subst h1
                go_enter Tryz.func73, Tryz.ntmps73
                go_wp2_with fail
                refine HK.out.mono ?_
                rintro e w1 ⟨rfl, hb1⟩
                obtain ⟨f0, f1, f2, f3⟩ := HBX.out _ hb1
                clear HK hW0 a0 a1 a2 a3
                go_wp2_with fail
                clear f0 f1 f2 f3
                go_loopg [6] (lk + 1) (fun gk s6 wx => ∃ (i : Nat), s6 = .int .i64 i ∧ i ≤ lk ∧ lk - i < gk ∧ Hid ((rightL (ks.drop i) (deep + 1) && sortedL (ks.drop (i - 1))) = RES) ∧ Below W0.heap.size W0 wx)
                case atStart => exact ⟨0, rfl, by omega, by omega, HR, hb1⟩
                case round =>
                  obtain ⟨i, rfl, hi, hgk, hq, hbel⟩ := hrel
                  obtain ⟨x0, x1, x2, x3⟩ := HBX.out _ hbel
                  have hbW : Below w.heap.size w wr := HBW.out.trans (hbel.mono HBW.out.size)
                  clear x0 x1 x2
                  by_cases hlt : i < lk
                  · have hltz : (i : Int) < (lk : Int) := by omega
                    obtain ⟨gk', rfl⟩ : ∃ g', gk = g' + 1 := ⟨gk - 1, by omega⟩
                    obtain ⟨g, off, rfl, hg, hBg, hks⟩ := HK3.out (by omega)
                    have hkb := KidsC.below hbW hg hBg ks off hks
                    obtain ⟨d0, d1, d2, d3, p0, p1, p2, p3, hd⟩ := hkb.at i (by omega)
                    have ih := HO.out ks[i] (List.getElem_mem _) C (.agg #[d0, d1, d2, d3]) (deep + 1) wr (by omega) ⟨_, _, _, _, rfl, hd⟩
                    have hst : rightL (ks.drop i) (deep + 1) = (rightF ks[i] (deep + 1) && rightL (ks.drop (i + 1)) (deep + 1)) := by
                      rw [List.drop_eq_getElem_cons (by omega)]
                      conv => lhs; unfold rightL
                    have hq2 := hq.out
                    rw [hst] at hq2
                    obtain ⟨r, hr⟩ : ∃ x, rightF ks[i] (deep + 1) = x := ⟨_, rfl⟩
                    rw [hr, Int.natCast_add, show ((1 : Nat) : Int) = 1 from rfl] at ih
                    rw [hr] at hq2
                    have hwd : IntKind.i64.wrap ((deep : Int) + 1) = (deep : Int) + 1 := IntWalk.i64_in _ (by omega)
                    have IH2 := Lib.hid ih
                    have Q2 := Lib.hid hq2
                    clear ih hq2 hr hst hq hd hkb hks
                    go_wp2_with fail
                    refine IH2.out.mono ?_
                    rintro e w2 ⟨rfl, hb2⟩
                    have hbel2 := below_then hbel hb2 (Nat.le_refl _)
                    have hbW2 : Below w.heap.size w w2 := HBW.out.trans (hbel2.mono HBW.out.size)
                    obtain ⟨y0, y1, y2, y3⟩ := HBX.out _ hbel2
                    clear IH2 hb2 hbel hbW x3 p0 p1 p2 p3 y0 y1 y2 hwd
                    cases r with
                    | false =>
                      have hE : RES = false := by rw [← Q2.out]; simp
                      clear Q2 HR HBX HBW HO HK3
                      subst hE
                      go_wp2
                      go_ret
                      exact ⟨rfl, hbW2⟩
                    | true =>
                      by_cases h0 : i = 0
                      · subst h0
                        have Q3 : Hid ((rightL (ks.drop 1) (deep + 1) && sortedL (ks.drop (1 - 1))) = RES) := Lib.hid (by have := Q2.out; rwa [Bool.true_and] at this)
                        have hg0 : decide ((0 : Int) < ((0 : Nat) : Int)) = false := by decide
                        have hg1 : ¬ (0 : Int) < ((0 : Nat) : Int) := by decide
                        clear Q2
                        go_wp2_with fail
                        go_quiet (fail)
                        go_wp2
                        go_roundg gk'
                        case measure => omega
                        case rel => exact ⟨1, by first | rfl | go_num, by omega, by omega, Q3, below_drewN hbel2 _⟩
                      · obtain ⟨j, hj⟩ : ∃ j, i = j + 1 := ⟨i - 1, by omega⟩
                        obtain ⟨g, off, hKe, hg, hBg, hks⟩ := HK3.out (by omega)
                        cases hKe
                        have hkb := KidsC.below hbW2 hg hBg ks off hks
                        obtain ⟨d0, d1, d2, d3, p0, p1, p2, p3, hd⟩ := hkb.at i (by omega)
                        obtain ⟨e0, e1, e2, e3, q0, q1, q2, q3, hf⟩ := hkb.at j (by omega)
                        have hst : sortedL (ks.drop j) = (decide (ordT (ks[j]'(by omega)) (ks[i]'(by omega)) ≤ 0) && sortedL (ks.drop i)) := by
                          subst hj
                          exact sortedL_pair (ks := ks) (i := j) (by omega)
                        have ih := rorder_any (ks[j]'(by omega)) (ks[i]'(by omega)) C C (.agg #[e0, e1, e2, e3]) (.agg #[d0, d1, d2, d3]) w2.drew ⟨_, _, _, _, rfl, TmC.below (Below.refl _ _).drew _ _ _ _ _ hf⟩ ⟨_, _, _, _, rfl, TmC.below (Below.refl _ _).drew _ _ _ _ _ hd⟩
                        have hq2 := Q2.out
                        rw [Bool.true_and, show i - 1 = j by omega, hst] at hq2
                        obtain ⟨r, hr⟩ : ∃ x, ordT (ks[j]'(by omega)) (ks[i]'(by omega)) = x := ⟨_, rfl⟩
                        rw [hr] at ih hq2
                        have IH2 := Lib.hid ih
                        have Q3 := Lib.hid hq2
                        have hwj : IntKind.i64.wrap ((i : Int) - 1) = (j : Int) := by rw [IntWalk.i64_in _ (by omega)]; omega
                        have i0 : (0 : Int) < (i : Int) := by omega
                        have i1 : (0 : Int) ≤ (i : Int) := by omega
                        have i3 : (0 : Int) ≤ (j : Int) := by omega
                        have i4 : (j : Int) < (lk : Int) := by omega
                        have hji : j < i := by omega
                        have hn0 : 0 < i := by omega
                        have X0 : ({ heap := w2.heap, tape := w2.tape, drawn := w2.drawn + 1, os := w2.os, output := w2.output } : World).cell? ⟨w.heap.size, 3, none⟩ = some (.slice (some ⟨g, off, none⟩) lk ck) := y3
                        have Y0 : ({ heap := w2.heap, tape := w2.tape, drawn := w2.drawn + 1, os := w2.os, output := w2.output } : World).cell? ⟨g, off + i * 4, none⟩ = some d0 := p0
                        have Y1 : ({ heap := w2.heap, tape := w2.tape, drawn := w2.drawn + 1, os := w2.os, output := w2.output } : World).cell? ⟨g, off + i * 4 + 1, none⟩ = some d1 := p1
                        have Y2 : ({ heap := w2.heap, tape := w2.tape, drawn := w2.drawn + 1, os := w2.os, output := w2.output } : World).cell? ⟨g, off + i * 4 + 2, none⟩ = some d2 := p2
                        have Y3 : ({ heap := w2.heap, tape := w2.tape, drawn := w2.drawn + 1, os := w2.os, output := w2.output } : World).cell? ⟨g, off + i * 4 + 3, none⟩ = some d3 := p3
                        have Z0 : ({ heap := w2.heap, tape := w2.tape, drawn := w2.drawn + 1, os := w2.os, output := w2.output } : World).cell? ⟨g, off + j * 4, none⟩ = some e0 := q0
                        have Z1 : ({ heap := w2.heap, tape := w2.tape, drawn := w2.drawn + 1, os := w2.os, output := w2.output } : World).cell? ⟨g, off + j * 4 + 1, none⟩ = some e1 := q1
                        have Z2 : ({ heap := w2.heap, tape := w2.tape, drawn := w2.drawn + 1, os := w2.os, output := w2.output } : World).cell? ⟨g, off + j * 4 + 2, none⟩ = some e2 := q2
                        have Z3 : ({ heap := w2.heap, tape := w2.tape, drawn := w2.drawn + 1, os := w2.os, output := w2.output } : World).cell? ⟨g, off + j * 4 + 3, none⟩ = some e3 := q3
                        clear ih hq2 hr hst hd hf hkb hks Q2 hj
                        go_wp2_with fail
                        go_still_tail 14, (by kernel_rfl)
                        change wpList _ _ _ _ _ w2.drew
                        have hbel3 := hbel2.drew
                        obtain ⟨w4, hw4⟩ : ∃ x, w2.drew = x := ⟨_, rfl⟩
                        rw [hw4] at IH2 hbel3 ⊢
                        clear hw4 X0 Y0 Y1 Y2 Y3 Z0 Z1 Z2 Z3 p0 p1 p2 p3 q0 q1 q2 q3 y3 hbel2 hbW2
                        go_wp2_with fail
                        refine IH2.out.mono ?_
                        rintro e w5 ⟨rfl, hb5⟩
                        have hbel5 := below_then hbel3 hb5 (Nat.le_refl _)
                        have hbW5 : Below w.heap.size w w5 := HBW.out.trans (hbel5.mono HBW.out.size)
                        clear IH2 hb5 hbel3
                        by_cases hr0 : 0 < r
                        · have hE : RES = false := by rw [← Q3.out, decide_eq_false (by omega), Bool.false_and, Bool.and_false]
                          clear Q3 HR HBX HBW HO HK3
                          subst hE
                          go_wp2
                          go_ret
                          exact ⟨rfl, hbW5⟩
                        · have Q4 : Hid ((rightL (ks.drop (i + 1)) (deep + 1) && sortedL (ks.drop (i + 1 - 1))) = RES) := Lib.hid (by have := Q3.out; rwa [decide_eq_true (by omega), Bool.true_and] at this)
                          clear Q3 hbW5
                          go_wp2
                          go_roundg gk'
                          case measure => omega
                          case rel => exact ⟨i + 1, by go_num, by omega, by omega, Q4, hbel5⟩
                  · have hltz : ¬ (i : Int) < (lk : Int) := by omega
                    have hE : RES = true := by
                      rw [← hq.out, List.drop_eq_nil_of_le (by omega), sortedL_last (by omega)]
                      unfold rightL; rfl
                    clear hq HR HBX HBW HO HK3 hbel
                    subst hE
                    go_wp2
                    go_ret
                    exact ⟨rfl, hbW⟩
        · have h1b : (o == 1) = false := by simpa using h1
          have h1c : (o != 1) = true := by simpa using h1
          by_cases hm0 : m = 0
          · subst hm0
            by_cases hl0 : 0 < la
            · have hl0z : (0 : Int) < (la : Int) := by omega
              by_cases h3 : o = 3 ∨ o = 4 ∨ o = 5 ∨ o = 6
              · have ht : al = true := by rw [hal3]; exact decide_eq_true ⟨hla, fun h => absurd h h1, fun _ => rfl, fun _ => h3⟩
                have HR : Hid ((rightL (ks.drop 0) (deep + 1) && sortedL (ks.drop (0 - 1))) = RES) := Lib.hid (by have := HR0.out; rw [decide_eq_true hd16, ht] at this; exact this)
                clear hal3 ht HR0
                rcases h3 with rfl | rfl | rfl | rfl
                all_goals
                  go_enter Tryz.func73, Tryz.ntmps73
                  go_wp2_with fail
                  refine HK.out.mono ?_
                  rintro e w1 ⟨rfl, hb1⟩
                  obtain ⟨f0, f1, f2, f3⟩ := HBX.out _ hb1
                  clear HK hW0 a0 a1 a2 a3
                  go_wp2_with fail
                  clear f0 f1 f2 f3
                  go_loopg [6] (lk + 1) (fun gk s6 wx => ∃ (i : Nat), s6 = .int .i64 i ∧ i ≤ lk ∧ lk - i < gk ∧ Hid ((rightL (ks.drop i) (deep + 1) && sortedL (ks.drop (i - 1))) = RES) ∧ Below W0.heap.size W0 wx)
                  case atStart => exact ⟨0, rfl, by omega, by omega, HR, hb1⟩
                  case round =>
                    obtain ⟨i, rfl, hi, hgk, hq, hbel⟩ := hrel
                    obtain ⟨x0, x1, x2, x3⟩ := HBX.out _ hbel
                    have hbW : Below w.heap.size w wr := HBW.out.trans (hbel.mono HBW.out.size)
                    clear x0 x1 x2
                    by_cases hlt : i < lk
                    · have hltz : (i : Int) < (lk : Int) := by omega
                      obtain ⟨gk', rfl⟩ : ∃ g', gk = g' + 1 := ⟨gk - 1, by omega⟩
                      obtain ⟨g, off, rfl, hg, hBg, hks⟩ := HK3.out (by omega)
                      have hkb := KidsC.below hbW hg hBg ks off hks
                      obtain ⟨d0, d1, d2, d3, p0, p1, p2, p3, hd⟩ := hkb.at i (by omega)
                      have ih := HO.out ks[i] (List.getElem_mem _) C (.agg #[d0, d1, d2, d3]) (deep + 1) wr (by omega) ⟨_, _, _, _, rfl, hd⟩
                      have hst : rightL (ks.drop i) (deep + 1) = (rightF ks[i] (deep + 1) && rightL (ks.drop (i + 1)) (deep + 1)) := by
                        rw [List.drop_eq_getElem_cons (by omega)]
                        conv => lhs; unfold rightL
                      have hq2 := hq.out
                      rw [hst] at hq2
                      obtain ⟨r, hr⟩ : ∃ x, rightF ks[i] (deep + 1) = x := ⟨_, rfl⟩
                      rw [hr, Int.natCast_add, show ((1 : Nat) : Int) = 1 from rfl] at ih
                      rw [hr] at hq2
                      have hwd : IntKind.i64.wrap ((deep : Int) + 1) = (deep : Int) + 1 := IntWalk.i64_in _ (by omega)
                      have IH2 := Lib.hid ih
                      have Q2 := Lib.hid hq2
                      clear ih hq2 hr hst hq hd hkb hks
                      go_wp2_with fail
                      refine IH2.out.mono ?_
                      rintro e w2 ⟨rfl, hb2⟩
                      have hbel2 := below_then hbel hb2 (Nat.le_refl _)
                      have hbW2 : Below w.heap.size w w2 := HBW.out.trans (hbel2.mono HBW.out.size)
                      obtain ⟨y0, y1, y2, y3⟩ := HBX.out _ hbel2
                      clear IH2 hb2 hbel hbW x3 p0 p1 p2 p3 y0 y1 y2 hwd
                      cases r with
                      | false =>
                        have hE : RES = false := by rw [← Q2.out]; simp
                        clear Q2 HR HBX HBW HO HK3
                        subst hE
                        go_wp2
                        go_ret
                        exact ⟨rfl, hbW2⟩
                      | true =>
                        by_cases h0 : i = 0
                        · subst h0
                          have Q3 : Hid ((rightL (ks.drop 1) (deep + 1) && sortedL (ks.drop (1 - 1))) = RES) := Lib.hid (by have := Q2.out; rwa [Bool.true_and] at this)
                          have hg0 : decide ((0 : Int) < ((0 : Nat) : Int)) = false := by decide
                          have hg1 : ¬ (0 : Int) < ((0 : Nat) : Int) := by decide
                          clear Q2
                          go_wp2_with fail
                          go_quiet (fail)
                          go_wp2
                          go_roundg gk'
                          case measure => omega
                          case rel => exact ⟨1, by first | rfl | go_num, by omega, by omega, Q3, below_drewN hbel2 _⟩
                        · obtain ⟨j, hj⟩ : ∃ j, i = j + 1 := ⟨i - 1, by omega⟩
                          obtain ⟨g, off, hKe, hg, hBg, hks⟩ := HK3.out (by omega)
                          cases hKe
                          have hkb := KidsC.below hbW2 hg hBg ks off hks
                          obtain ⟨d0, d1, d2, d3, p0, p1, p2, p3, hd⟩ := hkb.at i (by omega)
                          obtain ⟨e0, e1, e2, e3, q0, q1, q2, q3, hf⟩ := hkb.at j (by omega)
                          have hst : sortedL (ks.drop j) = (decide (ordT (ks[j]'(by omega)) (ks[i]'(by omega)) ≤ 0) && sortedL (ks.drop i)) := by
                            subst hj
                            exact sortedL_pair (ks := ks) (i := j) (by omega)
                          have ih := rorder_any (ks[j]'(by omega)) (ks[i]'(by omega)) C C (.agg #[e0, e1, e2, e3]) (.agg #[d0, d1, d2, d3]) w2.drew ⟨_, _, _, _, rfl, TmC.below (Below.refl _ _).drew _ _ _ _ _ hf⟩ ⟨_, _, _, _, rfl, TmC.below (Below.refl _ _).drew _ _ _ _ _ hd⟩
                          have hq2 := Q2.out
                          rw [Bool.true_and, show i - 1 = j by omega, hst] at hq2
                          obtain ⟨r, hr⟩ : ∃ x, ordT (ks[j]'(by omega)) (ks[i]'(by omega)) = x := ⟨_, rfl⟩
                          rw [hr] at ih hq2
                          have IH2 := Lib.hid ih
                          have Q3 := Lib.hid hq2
                          have hwj : IntKind.i64.wrap ((i : Int) - 1) = (j : Int) := by rw [IntWalk.i64_in _ (by omega)]; omega
                          have i0 : (0 : Int) < (i : Int) := by omega
                          have i1 : (0 : Int) ≤ (i : Int) := by omega
                          have i3 : (0 : Int) ≤ (j : Int) := by omega
                          have i4 : (j : Int) < (lk : Int) := by omega
                          have hji : j < i := by omega
                          have hn0 : 0 < i := by omega
                          have X0 : ({ heap := w2.heap, tape := w2.tape, drawn := w2.drawn + 1, os := w2.os, output := w2.output } : World).cell? ⟨w.heap.size, 3, none⟩ = some (.slice (some ⟨g, off, none⟩) lk ck) := y3
                          have Y0 : ({ heap := w2.heap, tape := w2.tape, drawn := w2.drawn + 1, os := w2.os, output := w2.output } : World).cell? ⟨g, off + i * 4, none⟩ = some d0 := p0
                          have Y1 : ({ heap := w2.heap, tape := w2.tape, drawn := w2.drawn + 1, os := w2.os, output := w2.output } : World).cell? ⟨g, off + i * 4 + 1, none⟩ = some d1 := p1
                          have Y2 : ({ heap := w2.heap, tape := w2.tape, drawn := w2.drawn + 1, os := w2.os, output := w2.output } : World).cell? ⟨g, off + i * 4 + 2, none⟩ = some d2 := p2
                          have Y3 : ({ heap := w2.heap, tape := w2.tape, drawn := w2.drawn + 1, os := w2.os, output := w2.output } : World).cell? ⟨g, off + i * 4 + 3, none⟩ = some d3 := p3
                          have Z0 : ({ heap := w2.heap, tape := w2.tape, drawn := w2.drawn + 1, os := w2.os, output := w2.output } : World).cell? ⟨g, off + j * 4, none⟩ = some e0 := q0
                          have Z1 : ({ heap := w2.heap, tape := w2.tape, drawn := w2.drawn + 1, os := w2.os, output := w2.output } : World).cell? ⟨g, off + j * 4 + 1, none⟩ = some e1 := q1
                          have Z2 : ({ heap := w2.heap, tape := w2.tape, drawn := w2.drawn + 1, os := w2.os, output := w2.output } : World).cell? ⟨g, off + j * 4 + 2, none⟩ = some e2 := q2
                          have Z3 : ({ heap := w2.heap, tape := w2.tape, drawn := w2.drawn + 1, os := w2.os, output := w2.output } : World).cell? ⟨g, off + j * 4 + 3, none⟩ = some e3 := q3
                          clear ih hq2 hr hst hd hf hkb hks Q2 hj
                          go_wp2_with fail
                          go_still_tail 14, (by kernel_rfl)
                          change wpList _ _ _ _ _ w2.drew
                          have hbel3 := hbel2.drew
                          obtain ⟨w4, hw4⟩ : ∃ x, w2.drew = x := ⟨_, rfl⟩
                          rw [hw4] at IH2 hbel3 ⊢
                          clear hw4 X0 Y0 Y1 Y2 Y3 Z0 Z1 Z2 Z3 p0 p1 p2 p3 q0 q1 q2 q3 y3 hbel2 hbW2
                          go_wp2_with fail
                          refine IH2.out.mono ?_
                          rintro e w5 ⟨rfl, hb5⟩
                          have hbel5 := below_then hbel3 hb5 (Nat.le_refl _)
                          have hbW5 : Below w.heap.size w w5 := HBW.out.trans (hbel5.mono HBW.out.size)
                          clear IH2 hb5 hbel3
                          by_cases hr0 : 0 < r
                          · have hE : RES = false := by rw [← Q3.out, decide_eq_false (by omega), Bool.false_and, Bool.and_false]
                            clear Q3 HR HBX HBW HO HK3
                            subst hE
                            go_wp2
                            go_ret
                            exact ⟨rfl, hbW5⟩
                          · have Q4 : Hid ((rightL (ks.drop (i + 1)) (deep + 1) && sortedL (ks.drop (i + 1 - 1))) = RES) := Lib.hid (by have := Q3.out; rwa [decide_eq_true (by omega), Bool.true_and] at this)
                            clear Q3 hbW5
                            go_wp2
                            go_roundg gk'
                            case measure => omega
                            case rel => exact ⟨i + 1, by go_num, by omega, by omega, Q4, hbel5⟩
                    · have hltz : ¬ (i : Int) < (lk : Int) := by omega
                      have hE : RES = true := by
                        rw [← hq.out, List.drop_eq_nil_of_le (by omega), sortedL_last (by omega)]
                        unfold rightL; rfl
                      clear hq HR HBX HBW HO HK3 hbel
                      subst hE
                      go_wp2
                      go_ret
                      exact ⟨rfl, hbW⟩
              · have b3 : (o == 3) = false := by simp; omega
                have c3 : (o != 3) = true := by simp; omega
                have b4 : (o == 4) = false := by simp; omega
                have c4 : (o != 4) = true := by simp; omega
                have b5 : (o == 5) = false := by simp; omega
                have c5 : (o != 5) = true := by simp; omega
                have b6 : (o == 6) = false := by simp; omega
                have c6 : (o != 6) = true := by simp; omega
                have hf : al = false := by rw [hal3]; exact decide_eq_false (fun h => h3 (h.2.2.2 hl0))
                clear hal3
                subst hf
                have hE : RES = false := by rw [← HR0.out, decide_eq_true hd16]; rfl
                clear HR0 HO HK3
                subst hE
                go_enter Tryz.func73, Tryz.ntmps73
                go_wp2_with fail
                refine HK.out.mono ?_
                rintro e w1 ⟨rfl, hb1⟩
                obtain ⟨f0, f1, f2, f3⟩ := HBX.out _ hb1
                clear HK hW0 a0 a1 a2 a3
                have hend := HBW.out.trans (hb1.mono HBW.out.size)
                clear HBX HBW
                go_wp2
                go_ret
                exact ⟨rfl, hend⟩
            · have hl0z : ¬ (0 : Int) < (la : Int) := by omega
              have ht : al = true := by rw [hal3]; exact decide_eq_true ⟨hla, fun h => absurd h h1, fun _ => rfl, fun h => absurd h hl0⟩
              have HR : Hid ((rightL (ks.drop 0) (deep + 1) && sortedL (ks.drop (0 - 1))) = RES) := Lib.hid (by have := HR0.out; rw [decide_eq_true hd16, ht] at this; exact this)
              clear hal3 ht HR0
              go_enter Tryz.func73, Tryz.ntmps73
              go_wp2_with fail
              refine HK.out.mono ?_
              rintro e w1 ⟨rfl, hb1⟩
              obtain ⟨f0, f1, f2, f3⟩ := HBX.out _ hb1
              clear HK hW0 a0 a1 a2 a3
              go_wp2_with fail
              clear f0 f1 f2 f3
              go_loopg [6] (lk + 1) (fun gk s6 wx => ∃ (i : Nat), s6 = .int .i64 i ∧ i ≤ lk ∧ lk - i < gk ∧ Hid ((rightL (ks.drop i) (deep + 1) && sortedL (ks.drop (i - 1))) = RES) ∧ Below W0.heap.size W0 wx)
              case atStart => exact ⟨0, rfl, by omega, by omega, HR, hb1⟩
              case round =>
                obtain ⟨i, rfl, hi, hgk, hq, hbel⟩ := hrel
                obtain ⟨x0, x1, x2, x3⟩ := HBX.out _ hbel
                have hbW : Below w.heap.size w wr := HBW.out.trans (hbel.mono HBW.out.size)
                clear x0 x1 x2
                by_cases hlt : i < lk
                · have hltz : (i : Int) < (lk : Int) := by omega
                  obtain ⟨gk', rfl⟩ : ∃ g', gk = g' + 1 := ⟨gk - 1, by omega⟩
                  obtain ⟨g, off, rfl, hg, hBg, hks⟩ := HK3.out (by omega)
                  have hkb := KidsC.below hbW hg hBg ks off hks
                  obtain ⟨d0, d1, d2, d3, p0, p1, p2, p3, hd⟩ := hkb.at i (by omega)
                  have ih := HO.out ks[i] (List.getElem_mem _) C (.agg #[d0, d1, d2, d3]) (deep + 1) wr (by omega) ⟨_, _, _, _, rfl, hd⟩
                  have hst : rightL (ks.drop i) (deep + 1) = (rightF ks[i] (deep + 1) && rightL (ks.drop (i + 1)) (deep + 1)) := by
                    rw [List.drop_eq_getElem_cons (by omega)]
                    conv => lhs; unfold rightL
                  have hq2 := hq.out
                  rw [hst] at hq2
                  obtain ⟨r, hr⟩ : ∃ x, rightF ks[i] (deep + 1) = x := ⟨_, rfl⟩
                  rw [hr, Int.natCast_add, show ((1 : Nat) : Int) = 1 from rfl] at ih
                  rw [hr] at hq2
                  have hwd : IntKind.i64.wrap ((deep : Int) + 1) = (deep : Int) + 1 := IntWalk.i64_in _ (by omega)
                  have IH2 := Lib.hid ih
                  have Q2 := Lib.hid hq2
                  clear ih hq2 hr hst hq hd hkb hks
                  go_wp2_with fail
                  refine IH2.out.mono ?_
                  rintro e w2 ⟨rfl, hb2⟩
                  have hbel2 := below_then hbel hb2 (Nat.le_refl _)
                  have hbW2 : Below w.heap.size w w2 := HBW.out.trans (hbel2.mono HBW.out.size)
                  obtain ⟨y0, y1, y2, y3⟩ := HBX.out _ hbel2
                  clear IH2 hb2 hbel hbW x3 p0 p1 p2 p3 y0 y1 y2 hwd
                  cases r with
                  | false =>
                    have hE : RES = false := by rw [← Q2.out]; simp
                    clear Q2 HR HBX HBW HO HK3
                    subst hE
                    go_wp2
                    go_ret
                    exact ⟨rfl, hbW2⟩
                  | true =>
                    by_cases h0 : i = 0
                    · subst h0
                      have Q3 : Hid ((rightL (ks.drop 1) (deep + 1) && sortedL (ks.drop (1 - 1))) = RES) := Lib.hid (by have := Q2.out; rwa [Bool.true_and] at this)
                      have hg0 : decide ((0 : Int) < ((0 : Nat) : Int)) = false := by decide
                      have hg1 : ¬ (0 : Int) < ((0 : Nat) : Int) := by decide
                      clear Q2
                      go_wp2_with fail
                      go_quiet (fail)
                      go_wp2
                      go_roundg gk'
                      case measure => omega
                      case rel => exact ⟨1, by first | rfl | go_num, by omega, by omega, Q3, below_drewN hbel2 _⟩
                    · obtain ⟨j, hj⟩ : ∃ j, i = j + 1 := ⟨i - 1, by omega⟩
                      obtain ⟨g, off, hKe, hg, hBg, hks⟩ := HK3.out (by omega)
                      cases hKe
                      have hkb := KidsC.below hbW2 hg hBg ks off hks
                      obtain ⟨d0, d1, d2, d3, p0, p1, p2, p3, hd⟩ := hkb.at i (by omega)
                      obtain ⟨e0, e1, e2, e3, q0, q1, q2, q3, hf⟩ := hkb.at j (by omega)
                      have hst : sortedL (ks.drop j) = (decide (ordT (ks[j]'(by omega)) (ks[i]'(by omega)) ≤ 0) && sortedL (ks.drop i)) := by
                        subst hj
                        exact sortedL_pair (ks := ks) (i := j) (by omega)
                      have ih := rorder_any (ks[j]'(by omega)) (ks[i]'(by omega)) C C (.agg #[e0, e1, e2, e3]) (.agg #[d0, d1, d2, d3]) w2.drew ⟨_, _, _, _, rfl, TmC.below (Below.refl _ _).drew _ _ _ _ _ hf⟩ ⟨_, _, _, _, rfl, TmC.below (Below.refl _ _).drew _ _ _ _ _ hd⟩
                      have hq2 := Q2.out
                      rw [Bool.true_and, show i - 1 = j by omega, hst] at hq2
                      obtain ⟨r, hr⟩ : ∃ x, ordT (ks[j]'(by omega)) (ks[i]'(by omega)) = x := ⟨_, rfl⟩
                      rw [hr] at ih hq2
                      have IH2 := Lib.hid ih
                      have Q3 := Lib.hid hq2
                      have hwj : IntKind.i64.wrap ((i : Int) - 1) = (j : Int) := by rw [IntWalk.i64_in _ (by omega)]; omega
                      have i0 : (0 : Int) < (i : Int) := by omega
                      have i1 : (0 : Int) ≤ (i : Int) := by omega
                      have i3 : (0 : Int) ≤ (j : Int) := by omega
                      have i4 : (j : Int) < (lk : Int) := by omega
                      have hji : j < i := by omega
                      have hn0 : 0 < i := by omega
                      have X0 : ({ heap := w2.heap, tape := w2.tape, drawn := w2.drawn + 1, os := w2.os, output := w2.output } : World).cell? ⟨w.heap.size, 3, none⟩ = some (.slice (some ⟨g, off, none⟩) lk ck) := y3
                      have Y0 : ({ heap := w2.heap, tape := w2.tape, drawn := w2.drawn + 1, os := w2.os, output := w2.output } : World).cell? ⟨g, off + i * 4, none⟩ = some d0 := p0
                      have Y1 : ({ heap := w2.heap, tape := w2.tape, drawn := w2.drawn + 1, os := w2.os, output := w2.output } : World).cell? ⟨g, off + i * 4 + 1, none⟩ = some d1 := p1
                      have Y2 : ({ heap := w2.heap, tape := w2.tape, drawn := w2.drawn + 1, os := w2.os, output := w2.output } : World).cell? ⟨g, off + i * 4 + 2, none⟩ = some d2 := p2
                      have Y3 : ({ heap := w2.heap, tape := w2.tape, drawn := w2.drawn + 1, os := w2.os, output := w2.output } : World).cell? ⟨g, off + i * 4 + 3, none⟩ = some d3 := p3
                      have Z0 : ({ heap := w2.heap, tape := w2.tape, drawn := w2.drawn + 1, os := w2.os, output := w2.output } : World).cell? ⟨g, off + j * 4, none⟩ = some e0 := q0
                      have Z1 : ({ heap := w2.heap, tape := w2.tape, drawn := w2.drawn + 1, os := w2.os, output := w2.output } : World).cell? ⟨g, off + j * 4 + 1, none⟩ = some e1 := q1
                      have Z2 : ({ heap := w2.heap, tape := w2.tape, drawn := w2.drawn + 1, os := w2.os, output := w2.output } : World).cell? ⟨g, off + j * 4 + 2, none⟩ = some e2 := q2
                      have Z3 : ({ heap := w2.heap, tape := w2.tape, drawn := w2.drawn + 1, os := w2.os, output := w2.output } : World).cell? ⟨g, off + j * 4 + 3, none⟩ = some e3 := q3
                      clear ih hq2 hr hst hd hf hkb hks Q2 hj
                      go_wp2_with fail
                      go_still_tail 14, (by kernel_rfl)
                      change wpList _ _ _ _ _ w2.drew
                      have hbel3 := hbel2.drew
                      obtain ⟨w4, hw4⟩ : ∃ x, w2.drew = x := ⟨_, rfl⟩
                      rw [hw4] at IH2 hbel3 ⊢
                      clear hw4 X0 Y0 Y1 Y2 Y3 Z0 Z1 Z2 Z3 p0 p1 p2 p3 q0 q1 q2 q3 y3 hbel2 hbW2
                      go_wp2_with fail
                      refine IH2.out.mono ?_
                      rintro e w5 ⟨rfl, hb5⟩
                      have hbel5 := below_then hbel3 hb5 (Nat.le_refl _)
                      have hbW5 : Below w.heap.size w w5 := HBW.out.trans (hbel5.mono HBW.out.size)
                      clear IH2 hb5 hbel3
                      by_cases hr0 : 0 < r
                      · have hE : RES = false := by rw [← Q3.out, decide_eq_false (by omega), Bool.false_and, Bool.and_false]
                        clear Q3 HR HBX HBW HO HK3
                        subst hE
                        go_wp2
                        go_ret
                        exact ⟨rfl, hbW5⟩
                      · have Q4 : Hid ((rightL (ks.drop (i + 1)) (deep + 1) && sortedL (ks.drop (i + 1 - 1))) = RES) := Lib.hid (by have := Q3.out; rwa [decide_eq_true (by omega), Bool.true_and] at this)
                        clear Q3 hbW5
                        go_wp2
                        go_roundg gk'
                        case measure => omega
                        case rel => exact ⟨i + 1, by go_num, by omega, by omega, Q4, hbel5⟩
                · have hltz : ¬ (i : Int) < (lk : Int) := by omega
                  have hE : RES = true := by
                    rw [← hq.out, List.drop_eq_nil_of_le (by omega), sortedL_last (by omega)]
                    unfold rightL; rfl
                  clear hq HR HBX HBW HO HK3 hbel
                  subst hE
                  go_wp2
                  go_ret
                  exact ⟨rfl, hbW⟩
          · have hm0b : (m == 0) = false := by simpa using hm0
            have hm0c : (m != 0) = true := by simpa using hm0
            have hf : al = false := by rw [hal3]; exact decide_eq_false (fun h => hm0 (h.2.2.1 h1))
            clear hal3
            subst hf
            have hE : RES = false := by rw [← HR0.out, decide_eq_true hd16]; rfl
            clear HR0 HO HK3
            subst hE
            go_enter Tryz.func73, Tryz.ntmps73
            go_wp2_with fail
            refine HK.out.mono ?_
            rintro e w1 ⟨rfl, hb1⟩
            obtain ⟨f0, f1, f2, f3⟩ := HBX.out _ hb1
            clear HK hW0 a0 a1 a2 a3
            have hend := HBW.out.trans (hb1.mono HBW.out.size)
            clear HBX HBW
            go_wp2
            go_ret
            exact ⟨rfl, hend⟩
      · have hlaz : (8192 : Int) < (la : Int) := by omega
        have hf : al = false := by rw [hal3]; exact decide_eq_false (fun h => hla h.1)
        clear hal3
        subst hf
        have hE : RES = false := by rw [← HR0.out, decide_eq_true hd16]; rfl
        clear HR0 HO HK3
        subst hE
        go_enter Tryz.func73, Tryz.ntmps73
        go_wp2_with fail
        refine HK.out.mono ?_
        rintro e w1 ⟨rfl, hb1⟩
        obtain ⟨f0, f1, f2, f3⟩ := HBX.out _ hb1
        clear HK hW0 a0 a1 a2 a3
        have hend := HBW.out.trans (hb1.mono HBW.out.size)
        clear HBX HBW
        go_wp2
        go_ret
        exact ⟨rfl, hend⟩
  · have hltz : (16 : Int) ≤ (deep : Int) := by omega
    clear hal haf
    have hE : RES = false := by rw [← HR0.out, decide_eq_false hd16, Bool.false_and, Bool.false_and, Bool.false_and]
    clear HR0 HO HK3
    subst hE
    go_enter Tryz.func73, Tryz.ntmps73
    go_wp2_with fail
    refine HK.out.mono ?_
    rintro e w1 ⟨rfl, hb1⟩
    obtain ⟨f0, f1, f2, f3⟩ := HBX.out _ hb1
    clear HK hW0 a0 a1 a2 a3
    have hend := HBW.out.trans (hb1.mono HBW.out.size)
    clear HBX HBW
    go_wp2
    go_ret
    exact ⟨rfl, hend⟩
theorem rrights_all : ∀ (N : Nat) (n : Tm), szT n ≤ N → RRights n
  | 0, .mk _ _ _ ks, h => by unfold szT at h; omega
  | N + 1, .mk o m d ks, h => rrights_step o m d ks (fun k hk => rrights_all N k (by unfold szT at h; have := szTs_mem hk; omega))
set_option maxRecDepth 100000 in
theorem rright_any (k : Tm) (C : Nat → Prop) (v : Value) (w : World) (hv : TmV C w k v) :
    Calls Tryz.prog 47 #[v] w fun e w' => e = .returned (.bool (rightF k 0)) ∧ Below w.heap.size w w' := by
  obtain ⟨c0, c1, c2, c3, rfl, hnd⟩ := hv
  obtain ⟨o, m, A, la, ca, K, lk, ck, e0, e1, e2, e3⟩ := hnd.shape
  subst e0 e1 e2 e3
  have hbw := below_new w (.cells #[.int .i64 o, .int .i64 m, .slice A la ca, .slice K lk ck] 43)
  have hc := rrights_all _ k (Nat.le_refl _) C (.agg #[.int .i64 o, .int .i64 m, .slice A la ca, .slice K lk ck]) 0 (w.alloc (.cells #[.int .i64 o, .int .i64 m, .slice A la ca, .slice K lk ck] 43)) (by omega) ⟨_, _, _, _, rfl, TmC.below hbw _ _ _ _ _ hnd⟩
  obtain ⟨r, hr⟩ : ∃ x, rightF k 0 = x := ⟨_, rfl⟩
  rw [hr] at hc ⊢
  rw [show ((0 : Nat) : Int) = 0 from rfl] at hc
  have HC := Lib.hid hc
  clear hc hr hnd
  go_enter Tryz.func47, Tryz.ntmps47
  go_wp2_with fail
  refine HC.out.mono ?_
  rintro e w2 ⟨rfl, hb2⟩
  have hend := below_then hbw hb2 (by simp)
  clear HC hb2 hbw
  go_wp2
  go_ret
  exact ⟨rfl, hend⟩
end Go.Proofs.YtlhogjigdmpokaaGreatDoor.tmc
