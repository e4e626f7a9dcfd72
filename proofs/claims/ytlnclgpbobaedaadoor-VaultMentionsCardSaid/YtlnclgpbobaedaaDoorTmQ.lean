/- The document's Order. -/
import Derived.Test.YtlnclgpbobaedaaDoorTmOd
import Derived.WalkLawsBesides
namespace Go.Proofs.YtlnclgpbobaedaaDoor.tmc
open Go.RowKit Go.Proofs.YtlnclgpbobaedaaDoor.tlvc
set_option linter.unusedVariables false
theorem str_now {w : World} {A : Option Addr} {n : Nat} {xs : List Int} (h : Bys w A n xs) (c : Nat) :
    (convert 24 9 (.slice A n c)).run Tryd.prog w = .ok (.string (strOfNums xs)) w :=
  run_str (P := Tryd.prog) 24 5 Tryd.underlying24 Tryd.underlying5 A n c xs h 9 Tryd.underlying9
theorem text_any (A B : Option Addr) (n c m d : Nat) (xs ys : List Int) (w : World) (hx : Bys w A n xs) (hy : Bys w B m ys) :
    Calls Tryd.prog 47 #[.slice A n c, .slice B m d] w fun e w' => e = .returned (.int .i64 (cmpL xs ys)) ∧ w' = w := by
  have s1 := str_now hx c
  have s2 := str_now hy d
  have l1 := str_less hx.2.1 hy.2.1
  have l2 := str_less hy.2.1 hx.2.1
  have sg := cmpL_sg xs ys
  rw [cmpL_swap xs ys] at l2
  have heq : cmpL xs ys = 0 → strOfNums xs = strOfNums ys := fun h => by rw [cmpL_zero.1 h]
  have hne : cmpL xs ys = 1 → (strOfNums xs).toList ≠ (strOfNums ys).toList := fun h e => by
    rw [Lib.strOfNums_toList, Lib.strOfNums_toList] at e
    have := cmp8_L xs ys hx.2.1 hy.2.1
    rw [e, h] at this
    have h2 := cmp8_L ys ys hy.2.1 hy.2.1
    rw [this, cmpL_zero.2 rfl] at h2
    cases h2
  obtain ⟨X, hX⟩ : ∃ x, strOfNums xs = x := ⟨_, rfl⟩
  obtain ⟨Y, hY⟩ : ∃ x, strOfNums ys = x := ⟨_, rfl⟩
  obtain ⟨r, hr⟩ : ∃ x, cmpL xs ys = x := ⟨_, rfl⟩
  rw [hX] at s1 l1 l2 heq hne
  rw [hY] at s2 l1 l2 heq hne
  rw [hr] at l1 l2 sg heq hne ⊢
  clear hX hY hr hx hy
  rcases sg with rfl | rfl | rfl
  · have e1 : Op.bytesLess X.toList Y.toList = true := by simpa using l1
    clear l1 l2 heq hne
    go_enter Tryd.func47, Tryd.ntmps47
    go_wp2
    go_ret
    exact ⟨rfl, rfl⟩
  · have e1 : Op.bytesLess X.toList Y.toList = false := by simpa using l1
    obtain rfl := heq rfl
    clear l1 l2 hne heq
    go_enter Tryd.func47, Tryd.ntmps47
    go_wp2
    go_ret
    exact ⟨rfl, rfl⟩
  · have e1 : Op.bytesLess X.toList Y.toList = false := by simpa using l1
    have e3 := hne rfl
    have e4 : (X.toList == Y.toList) = false := by simpa using e3
    clear l1 l2 heq hne
    go_enter Tryd.func47, Tryd.ntmps47
    go_wp2
    go_ret
    exact ⟨rfl, rfl⟩
/-- The contract of the document's Order at two terms. -/
def ROrders (k m : Tm) : Prop := ∀ (C1 C2 : Nat → Prop) (v u : Value) (w : World), TmV C1 w k v → TmV C2 w m u → Calls Tryd.prog 37 #[v, u] w fun e w' => e = .returned (.int .i64 (ordT k m)) ∧ Below w.heap.size w w'
set_option maxRecDepth 100000 in
set_option maxHeartbeats 16000000 in
theorem rorder_step (o m : Int) (d : List Int) (ks : List Tm) (hk : ∀ k ∈ ks, ∀ l, ROrders k l) (n : Tm) : ROrders (.mk o m d ks) n := by
  intro C1 C2 v u w hv hu
  obtain ⟨o', m', d', ls⟩ := n
  obtain ⟨c0, c1, c2, c3, rfl, hc⟩ := hv
  obtain ⟨f0, f1, f2, f3, rfl, hf⟩ := hu
  unfold TmC at hc hf
  obtain ⟨rfl, ho, rfl, hm, ⟨A, la, ca, rfl, hA1, hA2, hA3, _⟩, K, ck, rfl, hK1, hK2, hK3⟩ := hc
  obtain ⟨rfl, ho', rfl, hm', ⟨B, lb, cb, rfl, hB1, hB2, hB3, _⟩, L, cl, rfl, hL1, hL2, hL3⟩ := hf
  have hord : ordT (.mk o m d ks) (.mk o' m' d' ls) = or0 (cmpI o o') (or0 (cmpI m m') (or0 (cmpL d d') (ordL ks ls))) := by
    unfold ordT
    rfl
  rw [hord]
  have HK := Lib.hid hk
  have HK3 := Lib.hid hK3
  have HL3 := Lib.hid hL3
  clear hord hk hK3 hL3
  obtain ⟨lk, hlk⟩ : ∃ x, ks.length = x := ⟨_, rfl⟩
  obtain ⟨ll, hll⟩ : ∃ x, ls.length = x := ⟨_, rfl⟩
  rw [hlk] at hK1 ⊢
  rw [hll] at hL1 ⊢
  have hK9 : ck ≤ 9223372036854775807 := by unfold maxLen at hK2; omega
  have hL9 : cl ≤ 9223372036854775807 := by unfold maxLen at hL2; omega
  have hbw : Below w.heap.size w ((w.alloc (.cells #[.int .i64 o, .int .i64 m, .slice A la ca, .slice K lk ck] 26)).alloc (.cells #[.int .i64 o', .int .i64 m', .slice B lb cb, .slice L ll cl] 26)) := (below_new _ _).alloc (by simp) _
  have htx := text_any A B la ca lb cb d d' _ (hA3.below hbw) (hB3.below hbw)
  by_cases e1 : o = o'
  · subst e1
    rw [show cmpI o o = 0 from cmpI_zero.2 rfl, show ∀ x, or0 0 x = x from fun x => rfl]
    by_cases e2 : m = m'
    · subst e2
      rw [show cmpI m m = 0 from cmpI_zero.2 rfl, show ∀ x, or0 0 x = x from fun x => rfl]
      obtain ⟨r, hr⟩ : ∃ x, cmpL d d' = x := ⟨_, rfl⟩
      rw [hr] at htx ⊢
      have HT := Lib.hid htx
      clear htx hr hA3 hB3
      by_cases e3 : r = 0
      · subst e3
        rw [show ∀ x, or0 0 x = x from fun x => rfl]
        obtain ⟨ANS, hANS⟩ : ∃ x, ordL ks ls = x := ⟨_, rfl⟩
        rw [hANS]
        have HN := Lib.hid hANS
        clear hANS
        go_enter Tryd.func37, Tryd.ntmps37
        go_wp2_with fail
        refine HT.out.mono ?_
        rintro e w' ⟨rfl, rfl⟩
        clear HT
        go_wp2_with fail
        obtain ⟨W0, hW0⟩ : ∃ x, (w.alloc (.cells #[.int .i64 o, .int .i64 m, .slice A la ca, .slice K lk ck] 26)).alloc (.cells #[.int .i64 o, .int .i64 m, .slice B lb cb, .slice L ll cl] 26) = x := ⟨_, rfl⟩
        have hz : w.heap.size + 2 ≤ W0.heap.size := by rw [← hW0]; simp
        have z0 : W0.heap[w.heap.size]? = some (.cells #[.int .i64 o, .int .i64 m, .slice A la ca, .slice K lk ck] 26) := by rw [← hW0, heap_old_ _ _ (by simp)]; exact heap_new_ _ _
        have z1 : W0.heap[w.heap.size + 1]? = some (.cells #[.int .i64 o, .int .i64 m, .slice B lb cb, .slice L ll cl] 26) := by
          rw [← hW0]
          have := heap_new_ (w.alloc (.cells #[.int .i64 o, .int .i64 m, .slice A la ca, .slice K lk ck] 26)) (.cells #[.int .i64 o, .int .i64 m, .slice B lb cb, .slice L ll cl] 26)
          rwa [show (w.alloc (.cells #[.int .i64 o, .int .i64 m, .slice A la ca, .slice K lk ck] 26)).heap.size = w.heap.size + 1 by simp] at this
        rw [hW0] at hbw ⊢
        have hbx : ∀ W, Below W0.heap.size W0 W → W.cell? ⟨w.heap.size, 3, none⟩ = some (.slice K lk ck) ∧ W.cell? ⟨w.heap.size + 1, 3, none⟩ = some (.slice L ll cl) := fun W hW => ⟨(box4 hW z0 (by omega)).2.2.2, (box4 hW z1 (by omega)).2.2.2⟩
        have HBX := Lib.hid hbx
        clear hW0 z0 z1 hbx
        go_loopg [6] (lk + 1) (fun gk s6 wx => ∃ (i : Nat), s6 = .int .i64 i ∧ i ≤ lk ∧ i ≤ ll ∧ lk - i < gk ∧ Hid (ordL (ks.drop i) (ls.drop i) = ANS) ∧ Below W0.heap.size W0 wx)
        case atStart => exact ⟨0, rfl, by omega, by omega, by omega, HN, Below.refl _ _⟩
        case round =>
          obtain ⟨i, rfl, hi, hj, hgk, hq, hbel⟩ := hrel
          obtain ⟨f1, f2⟩ := HBX.out _ hbel
          have hbW : Below w.heap.size w wr := hbw.trans (hbel.mono (by omega))
          by_cases hlt : i < lk
          · have hltz : (i : Int) < (lk : Int) := by omega
            by_cases hl2 : i < ll
            · have hl2z : (i : Int) < (ll : Int) := by omega
              obtain ⟨gk', rfl⟩ : ∃ g', gk = g' + 1 := ⟨gk - 1, by omega⟩
              obtain ⟨g, off, rfl, hg, hBg, hks⟩ := HK3.out (by omega)
              obtain ⟨g2, off2, rfl, hg2, hBg2, hms⟩ := HL3.out (by omega)
              obtain ⟨d0, d1, d2, d3, p0, p1, p2, p3, hd⟩ := (KidsC.below hbW hg hBg ks off hks).at i (by omega)
              obtain ⟨f0', f1', f2', f3', q0, q1, q2, q3, hf⟩ := (KidsC.below hbW hg2 hBg2 ls off2 hms).at i (by omega)
              have hst := ordL_drop (ks := ks) (ls := ls) (i := i) (by omega) (by omega)
              have ih := HK.out _ (List.getElem_mem (show i < ks.length by omega)) (ls[i]'(by omega)) C1 C2 (.agg #[d0, d1, d2, d3]) (.agg #[f0', f1', f2', f3']) wr.drew ⟨_, _, _, _, rfl, TmC.below (Below.refl _ _).drew _ _ _ _ _ hd⟩ ⟨_, _, _, _, rfl, TmC.below (Below.refl _ _).drew _ _ _ _ _ hf⟩
              obtain ⟨r, hr⟩ : ∃ x, ordT (ks[i]'(by omega)) (ls[i]'(by omega)) = x := ⟨_, rfl⟩
              rw [hr] at hst ih
              have hq2 := hq.out
              rw [hst] at hq2
              have IH2 := Lib.hid ih
              have Q2 := Lib.hid hq2
              have X1 : ({ heap := wr.heap, tape := wr.tape, drawn := wr.drawn + 1, os := wr.os, output := wr.output } : World).cell? ⟨w.heap.size, 3, none⟩ = some (.slice (some ⟨g, off, none⟩) lk ck) := f1
              have X2 : ({ heap := wr.heap, tape := wr.tape, drawn := wr.drawn + 1, os := wr.os, output := wr.output } : World).cell? ⟨w.heap.size + 1, 3, none⟩ = some (.slice (some ⟨g2, off2, none⟩) ll cl) := f2
              have Y0 : ({ heap := wr.heap, tape := wr.tape, drawn := wr.drawn + 1, os := wr.os, output := wr.output } : World).cell? ⟨g, off + i * 4, none⟩ = some d0 := p0
              have Y1 : ({ heap := wr.heap, tape := wr.tape, drawn := wr.drawn + 1, os := wr.os, output := wr.output } : World).cell? ⟨g, off + i * 4 + 1, none⟩ = some d1 := p1
              have Y2 : ({ heap := wr.heap, tape := wr.tape, drawn := wr.drawn + 1, os := wr.os, output := wr.output } : World).cell? ⟨g, off + i * 4 + 2, none⟩ = some d2 := p2
              have Y3 : ({ heap := wr.heap, tape := wr.tape, drawn := wr.drawn + 1, os := wr.os, output := wr.output } : World).cell? ⟨g, off + i * 4 + 3, none⟩ = some d3 := p3
              have Z0 : ({ heap := wr.heap, tape := wr.tape, drawn := wr.drawn + 1, os := wr.os, output := wr.output } : World).cell? ⟨g2, off2 + i * 4, none⟩ = some f0' := q0
              have Z1 : ({ heap := wr.heap, tape := wr.tape, drawn := wr.drawn + 1, os := wr.os, output := wr.output } : World).cell? ⟨g2, off2 + i * 4 + 1, none⟩ = some f1' := q1
              have Z2 : ({ heap := wr.heap, tape := wr.tape, drawn := wr.drawn + 1, os := wr.os, output := wr.output } : World).cell? ⟨g2, off2 + i * 4 + 2, none⟩ = some f2' := q2
              have Z3 : ({ heap := wr.heap, tape := wr.tape, drawn := wr.drawn + 1, os := wr.os, output := wr.output } : World).cell? ⟨g2, off2 + i * 4 + 3, none⟩ = some f3' := q3
              clear ih hq2 hst hr hd hf hks hms hq
              go_wp2_with fail
              go_still_tail 10, (by kernel_rfl)
              change wpList _ _ _ _ _ wr.drew
              have hbel1 := hbel.drew
              obtain ⟨w2, hw2⟩ : ∃ x, wr.drew = x := ⟨_, rfl⟩
              rw [hw2] at IH2 hbel1 ⊢
              clear hw2 X1 X2 Y0 Y1 Y2 Y3 Z0 Z1 Z2 Z3 f1 f2 p0 p1 p2 p3 q0 q1 q2 q3 hbW hbel
              go_wp2_with fail
              refine IH2.out.mono ?_
              rintro e w3 ⟨rfl, hb3⟩
              have hbel3 := below_then hbel1 hb3 (Nat.le_refl _)
              clear IH2 hb3 hbel1
              by_cases hr0 : r = 0
              · subst hr0
                have Q3 : Hid (ordL (ks.drop (i + 1)) (ls.drop (i + 1)) = ANS) := Lib.hid (by have := Q2.out; unfold or0 at this; rwa [if_pos rfl] at this)
                clear Q2
                go_wp2
                go_roundg gk'
                case measure => omega
                case rel => exact ⟨i + 1, by go_num, by omega, by omega, by omega, Q3, hbel3⟩
              · have hrb : (r == 0) = false := by simpa using hr0
                have hE : r = ANS := by have := Q2.out; unfold or0 at this; rwa [if_neg hr0] at this
                have hend := hbw.trans (hbel3.mono (by omega))
                clear Q2 HK HK3 HL3 HBX HN
                subst hE
                go_wp2
                go_ret
                exact ⟨rfl, hend⟩
            · have hl2z : ¬ (i : Int) < (ll : Int) := by omega
              have hE : (1 : Int) = ANS := by rw [← hq.out, List.drop_eq_getElem_cons (by omega), List.drop_eq_nil_of_le (show ls.length ≤ i by omega), ordL_end]
              have h3 : ¬ (lk : Int) < (ll : Int) := by omega
              have h4 : (ll : Int) < (lk : Int) := by omega
              clear hq HN HK HK3 HL3 HBX hbel hbw
              subst hE
              go_wp2
              go_ret
              exact ⟨rfl, hbW⟩
          · have hltz : ¬ (i : Int) < (lk : Int) := by omega
            have hE : (if ll = i then (0 : Int) else -1) = ANS := by
              rw [← hq.out, List.drop_eq_nil_of_le (show ks.length ≤ i by omega), ordL_nil, List.length_drop]
              by_cases h : ll = i
              · rw [if_pos h, if_pos (by omega)]
              · rw [if_neg h, if_neg (by omega)]
            clear hq HN HK HK3 HL3 HBX hbel hbw
            by_cases h : ll = i
            · rw [if_pos h] at hE
              have h3 : ¬ (lk : Int) < (ll : Int) := by omega
              have h4 : ¬ (ll : Int) < (lk : Int) := by omega
              clear h
              subst hE
              go_wp2
              go_ret
              exact ⟨rfl, hbW⟩
            · rw [if_neg h] at hE
              have h3 : (lk : Int) < (ll : Int) := by omega
              clear h
              subst hE
              go_wp2
              go_ret
              exact ⟨rfl, hbW⟩
      · have hrb : (r == 0) = false := by simpa using e3
        rw [show ∀ x, or0 r x = r from fun x => if_neg e3]
        go_enter Tryd.func37, Tryd.ntmps37
        go_wp2_with fail
        refine HT.out.mono ?_
        rintro e w' ⟨rfl, rfl⟩
        go_wp2
        go_ret
        exact ⟨rfl, hbw⟩
    · have hb2 : (m == m') = false := by simpa using e2
      clear htx HK HK3 HL3
      by_cases l2 : m < m'
      · rw [show cmpI m m' = -1 from if_pos l2, show ∀ x, or0 (-1) x = -1 from fun x => rfl]
        go_enter Tryd.func37, Tryd.ntmps37
        go_wp2
        go_ret
        exact ⟨rfl, hbw⟩
      · rw [show cmpI m m' = 1 from by unfold cmpI; rw [if_neg l2, if_pos (by omega)], show ∀ x, or0 1 x = 1 from fun x => rfl]
        go_enter Tryd.func37, Tryd.ntmps37
        go_wp2
        go_ret
        exact ⟨rfl, hbw⟩
  · have hb1 : (o == o') = false := by simpa using e1
    clear htx HK HK3 HL3
    by_cases l1 : o < o'
    · rw [show cmpI o o' = -1 from if_pos l1, show ∀ x, or0 (-1) x = -1 from fun x => rfl]
      go_enter Tryd.func37, Tryd.ntmps37
      go_wp2
      go_ret
      exact ⟨rfl, hbw⟩
    · rw [show cmpI o o' = 1 from by unfold cmpI; rw [if_neg l1, if_pos (by omega)], show ∀ x, or0 1 x = 1 from fun x => rfl]
      go_enter Tryd.func37, Tryd.ntmps37
      go_wp2
      go_ret
      exact ⟨rfl, hbw⟩
theorem rorders_all : ∀ (N : Nat) (n : Tm), szT n ≤ N → ∀ l, ROrders n l
  | 0, .mk _ _ _ ks, h => by unfold szT at h; omega
  | N + 1, .mk o m d ks, h => fun l => rorder_step o m d ks (fun k hk => rorders_all N k (by unfold szT at h; have := szTs_mem hk; omega)) l
/-- The document's Order's contract. -/
theorem rorder_any (n l : Tm) : ROrders n l := rorders_all _ n (Nat.le_refl _) l
end Go.Proofs.YtlnclgpbobaedaaDoor.tmc
