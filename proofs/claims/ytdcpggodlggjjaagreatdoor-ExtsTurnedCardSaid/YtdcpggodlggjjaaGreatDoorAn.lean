/- The program's closures that read the first and the last of the five known extensions. -/
import Derived.Test.YtdcpggodlggjjaaGreatDoorAm
namespace Go.Proofs.YtdcpggodlggjjaaGreatDoor.nmc
open Go.RowKit Go.Proofs.YtdcpggodlggjjaaGreatDoor.tlvc Go.Proofs.YtdcpggodlggjjaaGreatDoor.tlvd Go.Proofs.YtdcpggodlggjjaaGreatDoor.ndc Go.Proofs.YtdcpggodlggjjaaGreatDoor.txc Go.Proofs.YtdcpggodlggjjaaGreatDoor.txm Go.Proofs.YtdcpggodlggjjaaGreatDoor.intc Go.Proofs.YtdcpggodlggjjaaGreatDoor.intm
set_option linter.unusedVariables false
set_option linter.unusedSimpArgs false
theorem tail_lst {B : Nat → Prop} {w : World} {g off n ck : Nat} {ks : List Nd} (hl : ks.length = n) (hL : Lst ndE B w (some ⟨g, off, none⟩) ks) (h1 : 1 ≤ n) (hc : n ≤ ck) : Lst ndE B w (if ck = 1 then some ⟨g, off, none⟩ else some ⟨g, off + 3, none⟩) (ks.drop 1) := fun hn => by
 rw [List.length_drop] at hn
 obtain ⟨g', off', e, hg, hB, hcell⟩ := hL (by omega)
 cases e
 rw [if_neg (by omega)]
 refine ⟨g, off + 3, rfl, hg, hB, fun i hi => ?_⟩
 rw [List.length_drop] at hi
 obtain ⟨cs, h2, h3⟩ := hcell (i + 1) (by omega)
 refine ⟨cs, fun j u hu => ?_, ?_⟩
 ·have := h2 j u hu
  rw [show ndE.sz = 3 from rfl] at this ⊢
  rwa [show off + 3 + i * 3 + j = off + (i + 1) * 3 + j by omega]
 ·rw [List.getElem_drop]
  have e : 1 + i = i + 1 := by omega
  simp only [e]
  exact h3
theorem kid_fit {B : Nat → Prop} {w : World} {t : Int} {b : List Int} {ks : List Nd} {c0 c1 c2 : Value} (h : NdC B w (.mk t b ks) c0 c1 c2) : ∀ k ∈ ks, Fit k.body := fun k hk => by
 obtain ⟨_, _, _, K, ck, _, _, _, hL⟩ := NdC.kidsL h
 obtain ⟨i, hi, rfl⟩ := List.mem_iff_getElem.1 hk
 obtain ⟨g, off, t1, A1, l1, k1, K1, m1, n1, _, _, _, _, hn1⟩ := nd_cells hL (Below.refl _ w) i hi
 exact (body_size hn1).2.2.1.2.1
theorem pathF_i64 : ∀ (ks : List Nd), (∀ k ∈ ks, Fit k.body) → -9223372036854775808 ≤ pathF ks ∧ pathF ks ≤ 9223372036854775807
 | [], _ => ⟨by decide, by decide⟩
 | k :: ks, h => by
  show -9223372036854775808 ≤ (intF k.body).1 ∧ (intF k.body).1 ≤ 9223372036854775807
  have hi := take_i64 (h k (by simp))
  unfold I64 at hi
  unfold intF
  split
  ·exact hi
  ·exact ⟨by decide, by decide⟩
set_option maxRecDepth 100000 in
set_option maxHeartbeats 8000000 in
theorem read0_any (x : Ex) (n : Nd) (n0 n1 n2 : Value) (q p : Nat) (c0 c1 c2 c3 c4 c5 c6 c7 c8 : Value) (w : World) (hX : XB (fun g => p < g) w q p x c0 c1 c2 c3 c4 c5 c6 c7 c8) (hqp : q ≠ p) (hn : NdC (fun g => p < g) w n n0 n1 n2) :
 Calls Tryz.prog 43 #[.agg #[n0, n1, n2], .pointer (some ⟨q, 0, none⟩)] w (ReadPost w q p (readX 0 x n)) := by
 have mixed : Tryz.prog.follows Departure.mixedOrders = true := by kernel_rfl
 obtain ⟨t, b, ks⟩ := n
 obtain ⟨rfl, ht, ⟨A1, l1, k1, rfl, _, _, _, _⟩, K1, u1, rfl, hK1, hK2, hK3⟩ := NdC.kidsL hn
 have h9 : u1 ≤ 9223372036854775807 := by unfold maxLen at hK2; omega
 obtain ⟨m1, hm1⟩ : ∃ y, ks.length = y := ⟨_, rfl⟩
 rw [hm1] at hK1 hn ⊢
 obtain ⟨W0, hW0⟩ : ∃ x, w.alloc (.cells #[.int .u8 t, .slice A1 l1 k1, .slice K1 m1 u1] 33) = x := ⟨_, rfl⟩
 have hb0 : Below w.heap.size w W0 := by rw [← hW0]; exact below_new _ _
 have q0 : W0.heap[w.heap.size]? = some (.cells #[.int .u8 t, .slice A1 l1 k1, .slice K1 m1 u1] 33) := by rw [← hW0]; exact heap_new_ _ _
 have hz := hX.size
 obtain ⟨x0, x1, x2⟩ := box_nd (Below.refl _ W0) q0
 obtain ⟨d0, _⟩ := (hX.below hb0).cells
 have HX := Lib.hid (fun W (hW : Below W0.heap.size W0 W) => And.intro ((hX.below (below_then hb0 hW (Nat.le_refl _))).cells.1) (box_nd hW q0))
 have HXB := Lib.hid (fun W (hW : Below W0.heap.size W0 W) => hX.below (below_then hb0 hW (Nat.le_refl _)))
 have HB := Lib.hid (And.intro hb0 (And.intro hz hqp))
 have HW0 := Lib.hid hW0
 obtain ⟨cb, hcb⟩ : ∃ y, decide (0 < m1) = y := ⟨_, rfl⟩
 have hcb2 : decide ((0 : Int) < (m1 : Int)) = cb := by rw [← hcb]; exact decide_eq_decide.2 (by omega)
 have hcb3 := hcb
 have HCB := Lib.hid hcb
 have HFIN := Lib.hid (show readX 0 x (.mk t b ks) = { x with hasCA := true, ca := cb, path := if 0 < m1 then pathF (ks.drop 1) else x.path } from by rw [← hcb, ← hm1]; rfl)
 obtain ⟨fin, hfin⟩ : ∃ y, readX 0 x (.mk t b ks) = y := ⟨_, rfl⟩
 rw [hfin] at HFIN ⊢
 have HK := Lib.hid (And.intro hm1 (And.intro hK1 (And.intro hK2 hK3)))
 have HPI := Lib.hid (pathF_i64 (ks.drop 1) (fun k hk => kid_fit hn k (List.mem_of_mem_drop hk)))
 clear hb0 q0 hz hX hn hqp hW0 hfin hcb hm1 hK1 hK2 hK3 ht
 go_enter Tryz.func43, Tryz.ntmps43
 go_wp2_with fail
 try dsimp only
 (try rw [HW0.out])
 try dsimp only
 refine wp_region_noPanic ?_
 refine wp_region_held_drew (S := fun wx : World => wx.cell? ⟨q, 0, none⟩ = some (.pointer (some ⟨p, 0, none⟩)) ∧ wx.cell? ⟨w.heap.size, 0, none⟩ = some (.int .u8 t) ∧ wx.cell? ⟨w.heap.size, 1, none⟩ = some (.slice A1 l1 k1) ∧ wx.cell? ⟨w.heap.size, 2, none⟩ = some (.slice K1 m1 u1)) mixed ⟨d0, x0, x1, x2⟩ (fun hHeld => ?_)
 have hbd := below_drew W0
 obtain ⟨wd, hwd⟩ : ∃ x, W0.drew = x := ⟨_, rfl⟩
 rw [hwd] at hHeld hbd ⊢
 clear hwd
 (refine wpAnyH_take (i := 0) (oi := ⟨_, _, _, _, _, _⟩) (v := ?_) rfl (by kernel_rfl) (by kernel_rfl) (by kernel_rfl) (fun _ _ _ h => h) (Or.inl ⟨by rfl, ?_⟩) (by assumption) ?_; rotate_left; focus (intro wS hSw; (first | obtain ⟨e1, e2, e3, e4⟩ := hSw | skip); go_simp; (try with_reducible rfl); done); (try simp only [Act.put, List.setIfInBounds_toArray, List.set_cons_zero, List.set_cons_succ]))
 (refine wpAnyH_take (i := 1) (oi := ⟨_, _, _, _, _, _⟩) (v := ?_) rfl (by kernel_rfl) (by kernel_rfl) (by kernel_rfl) (fun _ _ _ h => h) (Or.inl ⟨by rfl, ?_⟩) (by assumption) ?_; rotate_left; focus (intro wS hSw; (first | obtain ⟨e1, e2, e3, e4⟩ := hSw | skip); go_simp; (try with_reducible rfl); done); (try simp only [Act.put, List.setIfInBounds_toArray, List.set_cons_zero, List.set_cons_succ]))
 (refine wpAnyH_take (i := 2) (oi := ⟨_, _, _, _, _, _⟩) (v := ?_) rfl (by kernel_rfl) (by kernel_rfl) (by kernel_rfl) (fun _ _ _ h => h) (Or.inl ⟨by rfl, ?_⟩) (by assumption) ?_; rotate_left; focus (intro wS hSw; (first | obtain ⟨e1, e2, e3, e4⟩ := hSw | skip); go_simp; (try with_reducible rfl); done); (try simp only [Act.put, List.setIfInBounds_toArray, List.set_cons_zero, List.set_cons_succ]))
 (refine wpAnyH_take (i := 3) (oi := ⟨_, _, _, _, _, _⟩) (v := ?_) rfl (by kernel_rfl) (by kernel_rfl) (by kernel_rfl) (fun _ _ _ h => h) (Or.inl ⟨by rfl, ?_⟩) (by assumption) ?_; rotate_left; focus (intro wS hSw; (first | obtain ⟨e1, e2, e3, e4⟩ := hSw | skip); go_simp; (try with_reducible rfl); done); (try simp only [Act.put, List.setIfInBounds_toArray, List.set_cons_zero, List.set_cons_succ]))
 (refine wpAnyH_take (i := 6) (oi := ⟨_, _, _, _, _, _⟩) (v := ?_) rfl (by kernel_rfl) (by kernel_rfl) (by kernel_rfl) (fun _ _ _ h => h) (Or.inl ⟨by rfl, ?_⟩) (by assumption) ?_; rotate_left; focus (intro wS hSw; (first | obtain ⟨e1, e2, e3, e4⟩ := hSw | skip); go_simp; (try with_reducible rfl); done); (try simp only [Act.put, List.setIfInBounds_toArray, List.set_cons_zero, List.set_cons_succ]))
 (refine wpAnyH_take (i := 4) (oi := ⟨_, _, _, _, _, _⟩) (v := ?_) rfl (by kernel_rfl) (by kernel_rfl) (by kernel_rfl) (fun _ _ _ h => h) (Or.inl ⟨by rfl, ?_⟩) (by assumption) ?_; rotate_left; focus (intro wS hSw; (first | obtain ⟨e1, e2, e3, e4⟩ := hSw | skip); go_simp; (try with_reducible rfl); done); (try simp only [Act.put, List.setIfInBounds_toArray, List.set_cons_zero, List.set_cons_succ]))
 (refine wpAnyH_take (i := 7) (oi := ⟨_, _, _, _, _, _⟩) (v := ?_) rfl (by kernel_rfl) (by kernel_rfl) (by kernel_rfl) (fun _ _ _ h => h) (Or.inl ⟨by rfl, ?_⟩) (by assumption) ?_; rotate_left; focus (intro wS hSw; (first | obtain ⟨e1, e2, e3, e4⟩ := hSw | skip); go_simp; (try with_reducible rfl); done); (try simp only [Act.put, List.setIfInBounds_toArray, List.set_cons_zero, List.set_cons_succ]))
 (refine wpAnyH_take (i := 5) (oi := ⟨_, _, _, _, _, _⟩) (v := ?_) rfl (by kernel_rfl) (by kernel_rfl) (by kernel_rfl) (fun _ _ _ h => h) (Or.inl ⟨by rfl, ?_⟩) (by assumption) ?_; rotate_left; focus (intro wS hSw; (first | obtain ⟨e1, e2, e3, e4⟩ := hSw | skip); go_simp; (try with_reducible rfl); done); (try simp only [Act.put, List.setIfInBounds_toArray, List.set_cons_zero, List.set_cons_succ]))
 have hxb := HXB.out _ hbd
 have hpp := hxb.p
 have f0 := Lib.frozen_of_heap hpp 0
 have s0 := (Lib.cell_of_heap hpp 0).trans rfl
 have hfx := hxb.put0 (v := .bool true) HB.out.2.2 rfl
 have hkb := (KB.of (Nat.le_of_lt HB.out.2.1.2) (below_then HB.out.1 hbd (Nat.le_refl _))).set 0 (.bool true)
 obtain ⟨z0, z1, z2, z3⟩ := HX.out _ hbd
 have hne : w.heap.size ≠ p := by have := HB.out.2.1.2; omega
 have hcb := And.intro ((cell_same (set_heap_other wd p 0 q (.bool true) HB.out.2.2)).trans z0) (And.intro ((cell_same (set_heap_other wd p 0 w.heap.size (.bool true) hne)).trans z1) (And.intro ((cell_same (set_heap_other wd p 0 w.heap.size (.bool true) hne)).trans z2) ((cell_same (set_heap_other wd p 0 w.heap.size (.bool true) hne)).trans z3)))
 refine wpAnyH_ready (rs := [8]) (by kernel_rfl) (by simp) ?_
 refine AllReadyH.cons (o := ⟨_, _, _, _, _, _⟩) rfl (fun KK hKK => ?_) AllReadyH.nil
 go_simp
 refine hKK.out _ _ hcb (fun hHeld2 => ?_)
 clear hKK KK hHeld
 have hHeld := hHeld2
 clear hHeld2
 try simp only [Act.put, List.setIfInBounds_toArray, List.set_cons_zero, List.set_cons_succ]
 (refine wpAnyH_take (i := 9) (oi := ⟨_, _, _, _, _, _⟩) (v := ?_) rfl (by kernel_rfl) (by kernel_rfl) (by kernel_rfl) (fun _ _ _ h => h) (Or.inl ⟨by rfl, ?_⟩) (by assumption) ?_; rotate_left; focus (intro wS hSw; (first | obtain ⟨e1, e2, e3, e4⟩ := hSw | skip); go_simp; (try with_reducible rfl); done); (try simp only [Act.put, List.setIfInBounds_toArray, List.set_cons_zero, List.set_cons_succ]))
 (refine wpAnyH_take (i := 10) (oi := ⟨_, _, _, _, _, _⟩) (v := ?_) rfl (by kernel_rfl) (by kernel_rfl) (by kernel_rfl) (fun _ _ _ h => h) (Or.inl ⟨by rfl, ?_⟩) (by assumption) ?_; rotate_left; focus (intro wS hSw; (first | obtain ⟨e1, e2, e3, e4⟩ := hSw | skip); go_simp; (try with_reducible rfl); done); (try simp only [Act.put, List.setIfInBounds_toArray, List.set_cons_zero, List.set_cons_succ]))
 have HCB0 := Lib.hid hcb
 have HFX := Lib.hid hfx
 have HKB := Lib.hid hkb
 clear hcb z0 z1 z2 z3 s0 f0 hpp hxb hfx hkb
 have hpp := HFX.out.p
 have f0 := Lib.frozen_of_heap hpp 1
 have s0 := (Lib.cell_of_heap hpp 1).trans rfl
 have hfx := HFX.out.put1 (v := .bool cb) HB.out.2.2 rfl
 have hkb := HKB.out.set 1 (.bool cb)
 obtain ⟨z0, z1, z2, z3⟩ := HCB0.out
 have hcb := And.intro ((cell_same (set_heap_other (wd.setCell ⟨p, 0, none⟩ (.bool true)) p 1 q (.bool cb) HB.out.2.2)).trans z0) (And.intro ((cell_same (set_heap_other (wd.setCell ⟨p, 0, none⟩ (.bool true)) p 1 w.heap.size (.bool cb) hne)).trans z1) (And.intro ((cell_same (set_heap_other (wd.setCell ⟨p, 0, none⟩ (.bool true)) p 1 w.heap.size (.bool cb) hne)).trans z2) ((cell_same (set_heap_other (wd.setCell ⟨p, 0, none⟩ (.bool true)) p 1 w.heap.size (.bool cb) hne)).trans z3)))
 refine wpAnyH_ready (rs := [11]) (by kernel_rfl) (by simp) ?_
 refine AllReadyH.cons (o := ⟨_, _, _, _, _, _⟩) rfl (fun KK hKK => ?_) AllReadyH.nil
 go_simp
 refine hKK.out _ _ hcb (fun hHeld2 => ?_)
 clear hKK KK hHeld
 have hHeld := hHeld2
 clear hHeld2
 try simp only [Act.put, List.setIfInBounds_toArray, List.set_cons_zero, List.set_cons_succ]
 refine wpAnyH_done (by kernel_rfl) ?_ _
 refine NoPanic.normal ?_
 obtain ⟨W2, hW2⟩ : ∃ y, (wd.setCell ⟨p, 0, none⟩ (.bool true)).setCell ⟨p, 1, none⟩ (.bool cb) = y := ⟨_, rfl⟩
 rw [hW2] at hcb hfx hkb ⊢
 have HE := Lib.hid (And.intro hkb hfx)
 have HBD := Lib.hid hbd
 clear x0 x1 x2 d0
 obtain ⟨d0, x0, x1, x2⟩ := hcb
 have d1 : W2.cell? ⟨p, 1, none⟩ = some (.bool cb) := (Lib.cell_of_heap hfx.p 1).trans rfl
 clear hHeld hW2 z0 z1 z2 z3 s0 f0 hpp hfx hkb hne hbd HCB0 HFX HKB
 clear hcb2 hcb3
 cases cb
 ·have HF := Lib.hid (show { x with hasCA := true, ca := false } = fin from by rw [HFIN.out, if_neg (of_decide_eq_false HCB.out)])
  clear HFIN HCB
  go_wp2_with fail
  first | refine bodyPost_ret (results_none rfl _ _ _) rfl ?_ | refine bodyPost_normal (results_none rfl _ _ _) rfl ?_ | go_end0
  exact ⟨rfl, HE.out.1, _, _, _, _, _, _, _, _, _, by rw [← HF.out]; exact HE.out.2⟩
 ·have hm0 := of_decide_eq_true HCB.out
  have HF := Lib.hid (show { x with hasCA := true, ca := true, path := pathF (ks.drop 1) } = fin from by rw [HFIN.out, if_pos hm0])
  obtain ⟨g, off, rfl, _⟩ := HK.out.2.2.2 (show 0 < ks.length by have := HK.out.1; omega)
  have hm2 : ¬ (m1 : Int) < 1 := by omega
  have hm3 : (1 : Int) ≤ (m1 : Int) := by omega
  have hm4 : 1 ≤ m1 := by omega
  have hm5 : (m1 : Int) - 1 = ((m1 - 1 : Nat) : Int) := by omega
  have hm6 : (u1 : Int) - 1 = ((u1 - 1 : Nat) : Int) := by have := HK.out.2.1; omega
  have hm7 := HK.out.2.1
  have hm8 : (m1 : Int) ≤ (u1 : Int) := by omega
  have HP := Lib.hid (fun W (hW : KB p w W) => pathOf_any (fun g => p < g) (if u1 = 1 then some ⟨g, off, none⟩ else some ⟨g, off + 3, none⟩) (m1 - 1) (u1 - 1) (ks.drop 1) W (by rw [List.length_drop, HK.out.1]) (tail_lst HK.out.1 (HK.out.2.2.2.on hW.bel.size (fun g hg hl => hW.kept g hl (Nat.ne_of_gt hg)) (fun g hg _ => hg)) hm4 HK.out.2.1) (by omega) (by have := HK.out.2.2.1; omega))
  obtain ⟨K2, hKe⟩ : ∃ y : Option Addr, (if u1 = 1 then some ⟨g, off, none⟩ else some ⟨g, off + 3, none⟩) = y := ⟨_, rfl⟩
  rw [hKe] at HP
  obtain ⟨pv, hpv⟩ : ∃ y, pathF (ks.drop 1) = y := ⟨_, rfl⟩
  rw [hpv] at HP HF
  have HPV := Lib.hid (show -9223372036854775808 ≤ pv ∧ pv ≤ 9223372036854775807 from by rw [← hpv]; exact HPI.out)
  clear HFIN HCB hm0 hpv
  go_wp2_with fail
  try dsimp only
  refine wp_region_noPanic ?_
  refine wp_region_held_drew (S := fun wx : World => wx.cell? ⟨q, 0, none⟩ = some (.pointer (some ⟨p, 0, none⟩)) ∧ wx.cell? ⟨w.heap.size, 0, none⟩ = some (.int .u8 t) ∧ wx.cell? ⟨w.heap.size, 1, none⟩ = some (.slice A1 l1 k1) ∧ wx.cell? ⟨w.heap.size, 2, none⟩ = some (.slice (some ⟨g, off, none⟩) m1 u1)) mixed ⟨d0, x0, x1, x2⟩ (fun hHeld => ?_)
  have hbd := below_drew W2
  obtain ⟨wq, hwq⟩ : ∃ x, W2.drew = x := ⟨_, rfl⟩
  rw [hwq] at hHeld hbd ⊢
  clear hwq
  (refine wpAnyH_take (i := 0) (oi := ⟨_, _, _, _, _, _⟩) (v := ?_) rfl (by kernel_rfl) (by kernel_rfl) (by kernel_rfl) (fun _ _ _ h => h) (Or.inl ⟨by rfl, ?_⟩) (by assumption) ?_; rotate_left; focus (intro wS hSw; (first | obtain ⟨e1, e2, e3, e4⟩ := hSw | skip); go_simp; (try with_reducible rfl); done); (try simp only [Act.put, List.setIfInBounds_toArray, List.set_cons_zero, List.set_cons_succ]))
  (refine wpAnyH_take (i := 1) (oi := ⟨_, _, _, _, _, _⟩) (v := ?_) rfl (by kernel_rfl) (by kernel_rfl) (by kernel_rfl) (fun _ _ _ h => h) (Or.inl ⟨by rfl, ?_⟩) (by assumption) ?_; rotate_left; focus (intro wS hSw; (first | obtain ⟨e1, e2, e3, e4⟩ := hSw | skip); go_simp; (try with_reducible rfl); done); (try simp only [Act.put, List.setIfInBounds_toArray, List.set_cons_zero, List.set_cons_succ]))
  (refine wpAnyH_take (i := 2) (oi := ⟨_, _, _, _, _, _⟩) (v := ?_) rfl (by kernel_rfl) (by kernel_rfl) (by kernel_rfl) (fun _ _ _ h => h) (Or.inl ⟨by rfl, ?_⟩) (by assumption) ?_; rotate_left; focus (intro wS hSw; (first | obtain ⟨e1, e2, e3, e4⟩ := hSw | skip); go_simp; (try with_reducible rfl); done); (try simp only [Act.put, List.setIfInBounds_toArray, List.set_cons_zero, List.set_cons_succ]))
  (refine wpAnyH_take (i := 3) (oi := ⟨_, _, _, _, _, _⟩) (v := ?_) rfl (by kernel_rfl) (by kernel_rfl) (by kernel_rfl) (fun _ _ _ h => h) (Or.inl ⟨by rfl, ?_⟩) (by assumption) ?_; rotate_left; focus (intro wS hSw; (first | obtain ⟨e1, e2, e3, e4⟩ := hSw | skip); go_simp; (try with_reducible rfl); done); (try simp only [Act.put, List.setIfInBounds_toArray, List.set_cons_zero, List.set_cons_succ]))
  refine wpAnyH_ready (rs := [4]) (by kernel_rfl) (by simp) ?_
  refine AllReadyH.cons (o := ⟨_, _, _, _, _, _⟩) rfl (fun KK hKK => ?_) AllReadyH.nil
  go_simp
  refine (HP.out wq (HE.out.1.below (Nat.le_of_lt HB.out.2.1.2) hbd)).mono ?_
  rintro e w3 ⟨rfl, hb3⟩
  dsimp only
  have hb3 := below_then hbd hb3 (Nat.le_refl _)
  refine hKK.out _ _ ⟨cell_on hb3 d0, cell_on hb3 x0, cell_on hb3 x1, cell_on hb3 x2⟩ (fun hHeld2 => ?_)
  clear hKK KK hHeld
  have hHeld := hHeld2
  clear hHeld2
  try simp only [Act.put, List.setIfInBounds_toArray, List.set_cons_zero, List.set_cons_succ]
  (refine wpAnyH_take (i := 5) (oi := ⟨_, _, _, _, _, _⟩) (v := ?_) rfl (by kernel_rfl) (by kernel_rfl) (by kernel_rfl) (fun _ _ _ h => h) (Or.inl ⟨by rfl, ?_⟩) (by assumption) ?_; rotate_left; focus (intro wS hSw; (first | obtain ⟨e1, e2, e3, e4⟩ := hSw | skip); go_simp; (try with_reducible rfl); done); (try simp only [Act.put, List.setIfInBounds_toArray, List.set_cons_zero, List.set_cons_succ]))
  (refine wpAnyH_take (i := 6) (oi := ⟨_, _, _, _, _, _⟩) (v := ?_) rfl (by kernel_rfl) (by kernel_rfl) (by kernel_rfl) (fun _ _ _ h => h) (Or.inl ⟨by rfl, ?_⟩) (by assumption) ?_; rotate_left; focus (intro wS hSw; (first | obtain ⟨e1, e2, e3, e4⟩ := hSw | skip); go_simp; (try with_reducible rfl); done); (try simp only [Act.put, List.setIfInBounds_toArray, List.set_cons_zero, List.set_cons_succ]))
  have hxb := HE.out.2.below hb3
  have hpp := hxb.p
  have f0 := Lib.frozen_of_heap hpp 2
  have s0 := (Lib.cell_of_heap hpp 2).trans rfl
  have hfx := hxb.put2 (v := .int .i64 pv) HB.out.2.2 rfl HPV.out
  have hkb := (HE.out.1.below (Nat.le_of_lt HB.out.2.1.2) hb3).set 2 (.int .i64 pv)
  have hne : w.heap.size ≠ p := by have := HB.out.2.1.2; omega
  have hcb := And.intro ((cell_same (set_heap_other w3 p 2 q (.int .i64 pv) HB.out.2.2)).trans (cell_on hb3 d0)) (And.intro ((cell_same (set_heap_other w3 p 2 w.heap.size (.int .i64 pv) hne)).trans (cell_on hb3 x0)) (And.intro ((cell_same (set_heap_other w3 p 2 w.heap.size (.int .i64 pv) hne)).trans (cell_on hb3 x1)) ((cell_same (set_heap_other w3 p 2 w.heap.size (.int .i64 pv) hne)).trans (cell_on hb3 x2))))
  refine wpAnyH_ready (rs := [7]) (by kernel_rfl) (by simp) ?_
  refine AllReadyH.cons (o := ⟨_, _, _, _, _, _⟩) rfl (fun KK hKK => ?_) AllReadyH.nil
  go_simp
  refine hKK.out _ _ hcb (fun hHeld2 => ?_)
  clear hKK KK hHeld
  have hHeld := hHeld2
  clear hHeld2
  try simp only [Act.put, List.setIfInBounds_toArray, List.set_cons_zero, List.set_cons_succ]
  refine wpAnyH_done (by kernel_rfl) ?_ _
  refine NoPanic.normal ?_
  have HE2 := Lib.hid (And.intro hkb hfx)
  clear hHeld hcb s0 f0 hpp hxb hfx hkb hne hbd hb3 x0 x1 x2 d0 d1 HE
  go_wp2_with fail
  first | refine bodyPost_ret (results_none rfl _ _ _) rfl ?_ | refine bodyPost_normal (results_none rfl _ _ _) rfl ?_ | go_end0
  exact ⟨rfl, HE2.out.1, _, _, _, _, _, _, _, _, _, by rw [← HF.out]; exact HE2.out.2⟩
end Go.Proofs.YtdcpggodlggjjaaGreatDoor.nmc
