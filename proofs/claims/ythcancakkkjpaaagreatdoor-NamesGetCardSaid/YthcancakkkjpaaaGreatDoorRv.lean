/- The program's alike, and kidAt. -/
import Derived.Test.YthcancakkkjpaaaGreatDoorRr
namespace Go.Proofs.YthcancakkkjpaaaGreatDoor.nmc
open Go.RowKit Go.Proofs.YthcancakkkjpaaaGreatDoor.tlvc Go.Proofs.YthcancakkkjpaaaGreatDoor.tlvd Go.Proofs.YthcancakkkjpaaaGreatDoor.ndc Go.Proofs.YthcancakkkjpaaaGreatDoor.txc Go.Proofs.YthcancakkkjpaaaGreatDoor.txm Go.Proofs.YthcancakkkjpaaaGreatDoor.intc Go.Proofs.YthcancakkkjpaaaGreatDoor.intm
set_option linter.unusedVariables false
set_option linter.unusedSimpArgs false
theorem sameL_step {ks ms : List Nd} {i : Nat} {R : Bool} (h1 : i < ks.length) (hl : ks.length = ms.length) (h : sameL (ks.drop i) (ms.drop i) = R) : (sameN ks[i] (ms[i]'(by omega)) = false → R = false) ∧ (sameN ks[i] (ms[i]'(by omega)) = true → sameL (ks.drop (i + 1)) (ms.drop (i + 1)) = R) := by
  rw [sameL_drop i h1 hl] at h
  constructor
  · intro e; rw [← h, e]; rfl
  · intro e; rw [← h, e]; rfl
theorem sameL_end {ks ms : List Nd} {i : Nat} {R : Bool} (h1 : ¬ i < ks.length) (h : sameL (ks.drop i) (ms.drop i) = R) : R = true := by
  rw [← h, List.drop_eq_nil_of_le (by omega)]
  unfold sameL
  rfl
/-- A node at a place, as cells. -/
theorem nd_cells {B : Nat → Prop} {w wr : World} {A : Option Addr} {xs : List Nd} (hL : Lst ndE B w A xs) (hb : Below w.heap.size w wr) (i : Nat) (hi : i < xs.length) : ∃ g off t A1 l1 k1 K1 m1 n1, A = some ⟨g, off, none⟩ ∧ wr.cell? ⟨g, off + i * 3, none⟩ = some (.int .u8 t) ∧ wr.cell? ⟨g, off + i * 3 + 1, none⟩ = some (.slice A1 l1 k1) ∧ wr.cell? ⟨g, off + i * 3 + 2, none⟩ = some (.slice K1 m1 n1) ∧ NdC B wr xs[i] (.int .u8 t) (.slice A1 l1 k1) (.slice K1 m1 n1) := by
  obtain ⟨g, off, cs, rfl, hg, hcell, hold⟩ := (hL.below hb).at i hi
  obtain ⟨c0, c1, c2, rfl, hn⟩ := hold
  obtain ⟨t, A1, l1, k1, K1, m1, n1, rfl, rfl, rfl⟩ := hn.shape
  have e0 := hcell 0 _ rfl
  have e1 := hcell 1 _ rfl
  have e2 := hcell 2 _ rfl
  rw [show ndE.sz = 3 from rfl] at e0 e1 e2
  rw [Nat.add_zero] at e0
  exact ⟨g, off, t, A1, l1, k1, K1, m1, n1, rfl, e0, e1, e2, hn⟩
set_option maxRecDepth 100000 in
set_option maxHeartbeats 8000000 in
theorem eqFuncN_any (B C : Nat → Prop) (A A' : Option Addr) (n c m d : Nat) (xs ys : List Nd) (w : World) (hl : xs.length = n) (hl2 : ys.length = m) (hL : Lst ndE B w A xs) (hL2 : Lst ndE C w A' ys) (hc : n ≤ c) (hm : c ≤ maxLen) (hc2 : m ≤ d) (hm2 : d ≤ maxLen)
    (ih : ∀ k ∈ xs, ∀ (m : Nd) (v u : Value) (w : World), NdV B w k v → NdV C w m u → Calls Tryz.prog 43 #[v, u] w fun e w' => e = .returned (.bool (sameN k m)) ∧ Below w.heap.size w w') :
    Calls Tryz.prog 59 #[.slice A n c, .slice A' m d, .func (.func 43) #[] #[]] w fun e w' => e = .returned (.bool (decide (n = m) && sameL xs ys)) ∧ Below w.heap.size w w' := by
  have h9 : c ≤ 9223372036854775807 := by unfold maxLen at hm; omega
  have h92 : d ≤ 9223372036854775807 := by unfold maxLen at hm2; omega
  by_cases hnm : n = m
  · subst hnm
    rw [decide_eq_true rfl, Bool.true_and]
    obtain ⟨R, hR⟩ : ∃ R, sameL xs ys = R := ⟨_, rfl⟩
    rw [hR]
    have hent := enters_of Tryz.func43 (by kernel_rfl) rfl
    have HR := Lib.hid (show sameL (xs.drop 0) (ys.drop 0) = R by rw [List.drop_zero, List.drop_zero]; exact hR)
    have HL := Lib.hid (And.intro hl (And.intro hl2 (And.intro hL hL2)))
    have HIH := Lib.hid ih
    clear hl hl2 hL hL2 hR hm hm2 ih
    go_enter Tryz.func59, Tryz.ntmps59
    go_wp2_with fail
    go_loopg [17] (n + 1) (fun gk s17 wx => ∃ (i : Nat), s17 = .int .i64 i ∧ i ≤ n ∧ n - i < gk ∧ Hid (sameL (xs.drop i) (ys.drop i) = R ∧ Below w.heap.size w wx))
    case atStart => exact ⟨0, rfl, by omega, by omega, Lib.hid ⟨HR.out, Below.refl _ _⟩⟩
    case round =>
      obtain ⟨i, rfl, hi, hgk, HI⟩ := hrel
      clear HR
      by_cases hlt : i < n
      · have hltz : (i : Int) < (n : Int) := by omega
        obtain ⟨gk', rfl⟩ : ∃ g', gk = g' + 1 := ⟨gk - 1, by omega⟩
        have HN := Lib.hid (And.intro (show i + 1 ≤ n from hlt) (show n - (i + 1) < gk' by omega))
        have hix : i < xs.length := by rw [HL.out.1]; exact hlt
        have hiy : i < ys.length := by rw [HL.out.2.1]; exact hlt
        obtain ⟨g, off, t1, A1, l1, k1, K1, m1, n1, rfl, e0, e1, e2, hn1⟩ := nd_cells HL.out.2.2.1 HI.out.2 i hix
        obtain ⟨g', off', t2, A2, l2, k2, K2, m2, n2, rfl, e0', e1', e2', hn2⟩ := nd_cells HL.out.2.2.2 HI.out.2 i hiy
        have hbx : Below wr.heap.size wr ((wr.alloc (.cells #[.int .u8 t1, .slice A1 l1 k1, .slice K1 m1 n1] 25)).alloc (.cells #[.int .u8 t2, .slice A2 l2 k2, .slice K2 m2 n2] 25)) := (below_new _ _).alloc (by simp) _
        have hcall := HIH.out xs[i] (List.getElem_mem hix) ys[i] _ _ _ ⟨_, _, _, rfl, NdC.below hbx _ _ _ _ hn1⟩ ⟨_, _, _, rfl, NdC.below hbx _ _ _ _ hn2⟩
        have hbx1 := below_new wr (.cells #[.int .u8 t1, .slice A1 l1 k1, .slice K1 m1 n1] 25)
        have u0 := cell_on hbx1 e0'
        have u1 := cell_on hbx1 e1'
        have u2 := cell_on hbx1 e2'
        have hst := sameL_step hix (HL.out.1.trans HL.out.2.1.symm) HI.out.1
        obtain ⟨r, hr⟩ : ∃ x, sameN xs[i] ys[i] = x := ⟨_, rfl⟩
        rw [hr] at hcall hst
        have HC := Lib.hid hcall
        have HS := Lib.hid hst
        have HB := Lib.hid (below_then HI.out.2 hbx (Nat.le_refl _))
        clear hcall hst hr hbx hbx1 hn1 hn2 hgk
        go_wp2_with fail
        refine HC.out.mono ?_
        rintro e w3 ⟨rfl, hb3⟩
        have hfin := Lib.hid (below_then HB.out hb3 (Nat.le_refl _))
        clear hb3 HC HB e0 e1 e2 e0' e1' e2' u0 u1 u2
        cases r with
        | false =>
          have hR := HS.out.1 (by first | rfl | trivial)
          subst hR
          go_wp2
          go_ret
          exact ⟨rfl, hfin.out⟩
        | true =>
          have HS2 := Lib.hid (HS.out.2 (by first | rfl | trivial))
          go_wp2
          go_roundg gk'
          case measure => omega
          case rel => exact ⟨i + 1, by go_num, HN.out.1, HN.out.2, Lib.hid ⟨HS2.out, hfin.out⟩⟩
      · obtain rfl : n = i := by omega
        have hltz : ¬ (n : Int) < (n : Int) := by omega
        have hR := sameL_end (by rw [HL.out.1]; omega) HI.out.1
        subst hR
        clear hgk
        go_wp2
        go_ret
        exact ⟨rfl, HI.out.2⟩
  · rw [decide_eq_false hnm, Bool.false_and]
    have hne : ((n : Int) != m) = true := by simp only [bne_iff_ne, ne_eq]; omega
    have hne2 : (n != m) = true := by simpa using hnm
    clear hL hL2 hl hl2 hnm ih
    go_enter Tryz.func59, Tryz.ntmps59
    go_wp2
    go_ret
    exact ⟨rfl, Below.refl _ _⟩
set_option maxRecDepth 100000 in
set_option maxHeartbeats 8000000 in
theorem alike_of {B C : Nat → Prop} : ∀ (N : Nat) (n m : Nd), szN n ≤ N → ∀ (v u : Value) (w : World), NdV B w n v → NdV C w m u →
    Calls Tryz.prog 43 #[v, u] w fun e w' => e = .returned (.bool (sameN n m)) ∧ Below w.heap.size w w'
  | 0, .mk t b ks, m, h, _, _, _, _, _ => by unfold szN at h; omega
  | N + 1, .mk t b ks, .mk t2 b2 ms, h, v, u, w, hv, hu => by
    obtain ⟨c0, c1, c2, rfl, hc⟩ := hv
    obtain ⟨d0, d1, d2, rfl, hd⟩ := hu
    obtain ⟨rfl, ht, ⟨A, la, ca, rfl, hA1, hA2, hA3, _⟩, K, ck, rfl, hK1, hK2, hK3⟩ := NdC.kidsL hc
    obtain ⟨rfl, ht2, ⟨A', lb, cb, rfl, hB1, hB2, hB3, _⟩, M, cm, rfl, hM1, hM2, hM3⟩ := NdC.kidsL hd
    unfold szN at h
    have ih : ∀ k ∈ ks, ∀ (m : Nd) (v u : Value) (w : World), NdV B w k v → NdV C w m u → Calls Tryz.prog 43 #[v, u] w fun e w' => e = .returned (.bool (sameN k m)) ∧ Below w.heap.size w w' := fun k hk m => alike_of N k m (by have := szL_mem hk; omega)
    have hsn : sameN (.mk t b ks) (.mk t2 b2 ms) = (decide (t = t2) && decide (b = b2) && (decide (ks.length = ms.length) && sameL ks ms)) := by unfold sameN; rw [Bool.and_assoc]; rfl
    rw [hsn]
    obtain ⟨n, hn⟩ : ∃ x, ks.length = x := ⟨_, rfl⟩
    obtain ⟨m, hm⟩ : ∃ x, ms.length = x := ⟨_, rfl⟩
    rw [hn] at hK1 ⊢
    rw [hm] at hM1 ⊢
    obtain ⟨W0, hW0⟩ : ∃ x, (w.alloc (.cells #[.int .u8 t, .slice A la ca, .slice K n ck] 25)).alloc (.cells #[.int .u8 t2, .slice A' lb cb, .slice M m cm] 25) = x := ⟨_, rfl⟩
    have hb0 : Below w.heap.size w W0 := by rw [← hW0]; exact (below_new _ _).alloc (by simp) _
    have hz0 : W0.heap.size = w.heap.size + 2 := by rw [← hW0]; simp
    have p0 : W0.heap[w.heap.size + 1]? = some (.cells #[.int .u8 t2, .slice A' lb cb, .slice M m cm] 25) := by rw [← hW0]; exact heap_is (by simp)
    have q0 : W0.heap[w.heap.size]? = some (.cells #[.int .u8 t, .slice A la ca, .slice K n ck] 25) := by rw [← hW0, heap_old_ _ _ (by simp)]; exact heap_new_ _ _
    obtain ⟨x0, x1, x2⟩ := box_nd (Below.refl _ W0) q0
    obtain ⟨y0, y1, y2⟩ := box_nd (Below.refl _ W0) p0
    have heq := intc.equal_any A A' la ca lb cb b b2 W0 (hA3.below hb0) (hB3.below hb0)
    have hsb : intc.sameB b b2 = decide (b = b2) := by
      by_cases e : b = b2
      · subst e; rw [decide_eq_true rfl]; exact (intc.sameB_iff hA3.2.1 hB3.2.1).2 rfl
      · rw [decide_eq_false e]; exact intc.sameB_no hA3.2.1 hB3.2.1 e
    rw [hsb] at heq
    have hef := eqFuncN_any B C K M n ck m cm ks ms W0 hn hm (hK3.below hb0) (hM3.below hb0) hK1 hK2 hM1 hM2 ih
    obtain ⟨r2, hr2⟩ : ∃ x, decide (b = b2) = x := ⟨_, rfl⟩
    obtain ⟨r3, hr3⟩ : ∃ x, (decide (n = m) && sameL ks ms) = x := ⟨_, rfl⟩
    rw [hr2] at heq
    rw [hr3] at hef
    rw [hr2, hr3]
    have HE := Lib.hid heq
    have HF := Lib.hid hef
    have HB := Lib.hid hb0
    clear heq hef hb0 hr2 hr3 hsb p0 q0 hz0 hn hm ih hsn hA3 hB3 hK3 hM3 hA1 hA2 hB1 hB2 hK1 hK2 hM1 hM2 alike_of
    by_cases e1 : t = t2
    · subst e1
      rw [decide_eq_true rfl, Bool.true_and]
      cases r2
      · go_enter Tryz.func43, Tryz.ntmps43
        go_wp2_with fail
        refine HE.out.mono ?_
        rintro e w1 ⟨rfl, rfl⟩
        go_wp2
        go_ret
        exact ⟨rfl, HB.out⟩
      · go_enter Tryz.func43, Tryz.ntmps43
        go_wp2_with fail
        refine HE.out.mono ?_
        rintro e w1 ⟨rfl, rfl⟩
        go_wp2_with fail
        refine HF.out.mono ?_
        rintro e w2 ⟨rfl, hb2⟩
        have hfin := Lib.hid (below_then HB.out hb2 (Nat.le_refl _))
        clear hb2 HF HE
        go_wp2
        go_ret
        exact ⟨rfl, hfin.out⟩
    · have e1b : (t == t2) = false := by simpa using e1
      rw [decide_eq_false e1, Bool.false_and, Bool.false_and]
      go_enter Tryz.func43, Tryz.ntmps43
      go_wp2
      go_ret
      exact ⟨rfl, HB.out⟩
set_option maxRecDepth 100000 in
set_option maxHeartbeats 4000000 in
theorem kidAt_any (B : Nat → Prop) (n : Nd) (i : Nat) (c0 c1 c2 : Value) (w : World) (hn : NdC B w n c0 c1 c2) (hi : i ≤ 1000) :
    Calls Tryz.prog 19 #[.agg #[c0, c1, c2], .int .i64 i] w (NVal (fun _ => True) w (kidF n i)) := by
  obtain ⟨t, b, ks⟩ := n
  obtain ⟨rfl, ht, ⟨A, la, ca, rfl, hA1, hA2, hA3, _⟩, K, ck, rfl, hK1, hK2, hK3⟩ := NdC.kidsL hn
  have h9 : ck ≤ 9223372036854775807 := by unfold maxLen at hK2; omega
  have hkf : kidF (.mk t b ks) i = ks.getD i (.mk 0 [] []) := rfl
  rw [hkf]
  obtain ⟨n, hn0⟩ : ∃ x, ks.length = x := ⟨_, rfl⟩
  rw [hn0] at hK1 ⊢
  obtain ⟨W0, hW0⟩ : ∃ x, (w.alloc (.cells #[.int .u8 t, .slice A la ca, .slice K n ck] 25)).alloc (.cells #[.int .u8 0, .slice none 0 0, .slice none 0 0] 25) = x := ⟨_, rfl⟩
  have hb0 : Below w.heap.size w W0 := by rw [← hW0]; exact (below_new _ _).alloc (by simp) _
  have hz0 : W0.heap.size = w.heap.size + 2 := by rw [← hW0]; simp
  have p0 : W0.heap[w.heap.size + 1]? = some (.cells #[.int .u8 0, .slice none 0 0, .slice none 0 0] 25) := by rw [← hW0]; exact heap_is (by simp)
  have q0 : W0.heap[w.heap.size]? = some (.cells #[.int .u8 t, .slice A la ca, .slice K n ck] 25) := by rw [← hW0, heap_old_ _ _ (by simp)]; exact heap_new_ _ _
  obtain ⟨x0, x1, x2⟩ := box_nd (Below.refl _ W0) q0
  have f0 := Lib.frozen_of_heap p0 0
  have f1 := Lib.frozen_of_heap p0 1
  have f2 := Lib.frozen_of_heap p0 2
  have s0 := (Lib.cell_of_heap p0 0).trans rfl
  have s1 := (Lib.cell_of_heap p0 1).trans rfl
  have s2 := (Lib.cell_of_heap p0 2).trans rfl
  by_cases hlt : i < n
  · have hz : ¬ (n : Int) ≤ (i : Int) := by omega
    have hz2 : (i : Int) < (n : Int) := by omega
    obtain ⟨g, off, t1, A1, l1, k1, K1, m1, n1, rfl, e0, e1, e2, hn1⟩ := nd_cells hK3 hb0 i (by rw [hn0]; exact hlt)
    have hget : ks.getD i (.mk 0 [] []) = ks[i]'(by rw [hn0]; exact hlt) := by rw [List.getD_eq_getElem?_getD, List.getElem?_eq_getElem (by rw [hn0]; exact hlt)]; rfl
    obtain ⟨r0, r1, r2, hB⟩ := res3 (y0 := .int .u8 t1) (y1 := .slice A1 l1 k1) (y2 := .slice K1 m1 n1) (Nat.le_succ _) hb0 p0
    have hn2 : NdC (fun g => g < w.heap.size) w ks[i] (.int .u8 t1) (.slice A1 l1 k1) (.slice K1 m1 n1) := by
      obtain ⟨g', off', cs, e, _, hcell, c0, c1, c2, rfl, hh⟩ := hK3.at i (by rw [hn0]; exact hlt)
      cases e
      have j0 := hcell 0 _ rfl
      have j1 := hcell 1 _ rfl
      have j2 := hcell 2 _ rfl
      rw [show ndE.sz = 3 from rfl] at j0 j1 j2
      rw [Nat.add_zero] at j0
      have k0 := cell_on hb0 j0
      have k1' := cell_on hb0 j1
      have k2 := cell_on hb0 j2
      rw [e0] at k0
      rw [e1] at k1'
      rw [e2] at k2
      cases k0; cases k1'; cases k2
      exact NdC.mono (fun g hg => hg.2) _ _ _ _ (NdC.bound _ _ _ _ hh)
    have hn3 := res3_nd (b := w.heap.size + 1) (y0 := .int .u8 t1) (y1 := .slice A1 l1 k1) (y2 := .slice K1 m1 n1) (fun g hg => by omega) (NdC.stays (stays_below hb0 _) _ _ _ _ hn2)
    have HE := Lib.hid (And.intro hB (NdC.mono (B' := fun _ => True) (fun _ _ => trivial) _ _ _ _ hn3))
    rw [hget]
    clear hB hn1 hn2 hn3 hb0 p0 q0 hK3 hA3 hn hz0 hkf hget
    go_enter Tryz.func19, Tryz.ntmps19
    go_wp2_with fail
    refine bodyPost_ret (v := .agg #[.int .u8 t1, .slice A1 l1 k1, .slice K1 m1 n1]) ?_ rfl ⟨HE.out.1, _, _, _, _, _, _, _, rfl, HE.out.2⟩
    simp [results, Tryz.results19, go_sem, r0, r1, r2]
  · have hz : (n : Int) ≤ (i : Int) := by omega
    have hget : ks.getD i (.mk 0 [] []) = .mk 0 [] [] := by rw [List.getD_eq_getElem?_getD, List.getElem?_eq_none (by omega)]; rfl
    obtain ⟨r0, r1, r2, hB⟩ := res3 (y0 := .int .u8 0) (y1 := .slice none 0 0) (y2 := .slice none 0 0) (Nat.le_succ _) hb0 p0
    have HE := Lib.hid hB
    rw [hget]
    clear hB hb0 p0 q0 hK3 hA3 hn hz0 hkf hget hn0
    go_enter Tryz.func19, Tryz.ntmps19
    go_wp2_with fail
    refine bodyPost_ret (v := .agg #[.int .u8 0, .slice none 0 0, .slice none 0 0]) ?_ rfl ⟨HE.out, _, _, _, _, _, _, _, rfl, ndC_leaf (by omega) (Nat.le_refl _) (Nat.zero_le _) (Bys.nil_ _ _) (fun h => absurd h (by omega))⟩
    simp [results, Tryz.results19, go_sem, r0, r1, r2]
end Go.Proofs.YthcancakkkjpaaaGreatDoor.nmc
