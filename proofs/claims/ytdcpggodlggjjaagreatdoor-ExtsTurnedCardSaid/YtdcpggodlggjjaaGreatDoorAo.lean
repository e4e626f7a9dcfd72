/- The program's closure that reads what the extension of names says. -/
import Derived.Test.YtdcpggodlggjjaaGreatDoorAm
namespace Go.Proofs.YtdcpggodlggjjaaGreatDoor.nmc
open Go.RowKit Go.Proofs.YtdcpggodlggjjaaGreatDoor.tlvc Go.Proofs.YtdcpggodlggjjaaGreatDoor.tlvd Go.Proofs.YtdcpggodlggjjaaGreatDoor.ndc Go.Proofs.YtdcpggodlggjjaaGreatDoor.txc Go.Proofs.YtdcpggodlggjjaaGreatDoor.txm Go.Proofs.YtdcpggodlggjjaaGreatDoor.intc Go.Proofs.YtdcpggodlggjjaaGreatDoor.intm
set_option linter.unusedVariables false
set_option linter.unusedSimpArgs false
set_option maxRecDepth 100000 in
set_option maxHeartbeats 8000000 in
theorem read4_any (x : Ex) (n : Nd) (n0 n1 n2 : Value) (q p : Nat) (c0 c1 c2 c3 c4 c5 c6 c7 c8 : Value) (w : World) (hX : XB (fun g => p < g) w q p x c0 c1 c2 c3 c4 c5 c6 c7 c8) (hqp : q ≠ p) (hn : NdC (fun g => p < g) w n n0 n1 n2) (hTB : ∀ W, Below p w W → Tabs W) :
 Calls Tryz.prog 68 #[.agg #[n0, n1, n2], .pointer (some ⟨q, 0, none⟩)] w (ReadPost w q p (readX 4 x n)) := by
 have mixed : Tryz.prog.follows Departure.mixedOrders = true := by kernel_rfl
 obtain ⟨t, A1, l1, k1, K1, m1, u1, rfl, rfl, rfl⟩ := hn.shape
 obtain ⟨W0, hW0⟩ : ∃ x, w.alloc (.cells #[.int .u8 t, .slice A1 l1 k1, .slice K1 m1 u1] 33) = x := ⟨_, rfl⟩
 have hb0 : Below w.heap.size w W0 := by rw [← hW0]; exact below_new _ _
 have q0 : W0.heap[w.heap.size]? = some (.cells #[.int .u8 t, .slice A1 l1 k1, .slice K1 m1 u1] 33) := by rw [← hW0]; exact heap_new_ _ _
 have hz := hX.size
 obtain ⟨x0, x1, x2⟩ := box_nd (Below.refl _ W0) q0
 obtain ⟨d0, _⟩ := (hX.below hb0).cells
 have hent := enters_of Tryz.func132 (by kernel_rfl) rfl
 have HENT := Lib.hid hent
 have HX := Lib.hid (fun W (hW : Below W0.heap.size W0 W) => And.intro ((hX.below (below_then hb0 hW (Nat.le_refl _))).cells.1) (box_nd hW q0))
 have HXB := Lib.hid (fun W (hW : Below W0.heap.size W0 W) => hX.below (below_then hb0 hW (Nat.le_refl _)))
 have HB := Lib.hid (And.intro hb0 (And.intro hz hqp))
 have HW0 := Lib.hid hW0
 have HND := Lib.hid (fun W (hW : KB p w W) => NdC.stays (B := fun g => p < g) (w' := W) ⟨hW.bel.size, fun a ha hl => World.cell?_of_block (hW.kept _ hl (Nat.ne_of_gt ha))⟩ _ _ _ _ hn)
 have HTB := Lib.hid hTB
 obtain ⟨fin, hfin⟩ : ∃ y, readX 4 x n = y := ⟨_, rfl⟩
 have HFIN := Lib.hid (show { x with permit := (listedF (taggedF n 160)).map getNZ, exclude := (listedF (taggedF n 161)).map getNZ } = fin from hfin)
 rw [hfin]
 obtain ⟨m160, h160⟩ : ∃ y, taggedF n 160 = y := ⟨_, rfl⟩
 obtain ⟨m161, h161⟩ : ∃ y, taggedF n 161 = y := ⟨_, rfl⟩
 rw [h160, h161] at HFIN
 have H160 := Lib.hid h160
 have H161 := Lib.hid h161
 clear hb0 q0 hz hX hn hqp hW0 hfin hent hTB h160 h161
 go_enter Tryz.func68, Tryz.ntmps68
 go_wp2_with fail
 try dsimp only
 (try rw [HW0.out])
 have HSZ1 := Lib.hid (show w.heap.size ≤ W0.heap.size from HB.out.1.size)
 try dsimp only
 refine wp_region_noPanic ?_
 refine wp_region_held_drew (S := fun wx : World => wx.cell? ⟨q, 0, none⟩ = some (.pointer (some ⟨p, 0, none⟩)) ∧ wx.cell? ⟨w.heap.size, 0, none⟩ = some (.int .u8 t) ∧ wx.cell? ⟨w.heap.size, 1, none⟩ = some (.slice A1 l1 k1) ∧ wx.cell? ⟨w.heap.size, 2, none⟩ = some (.slice K1 m1 u1)) mixed ⟨d0, x0, x1, x2⟩ (fun hHeld => ?_)
 have hbd1 := below_drew W0
 obtain ⟨wd1, hwd1⟩ : ∃ x, W0.drew = x := ⟨_, rfl⟩
 rw [hwd1] at hHeld hbd1 ⊢
 clear hwd1
 (refine wpAnyH_take (i := 0) (oi := ⟨_, _, _, _, _, _⟩) (v := ?_) rfl (by kernel_rfl) (by kernel_rfl) (by kernel_rfl) (fun _ _ _ h => h) (Or.inl ⟨by rfl, ?_⟩) (by assumption) ?_; rotate_left; focus (intro wS hSw; (first | obtain ⟨e1, e2, e3, e4⟩ := hSw | skip); go_simp; (try with_reducible rfl); done); (try simp only [Act.put, List.setIfInBounds_toArray, List.set_cons_zero, List.set_cons_succ]))
 (refine wpAnyH_take (i := 1) (oi := ⟨_, _, _, _, _, _⟩) (v := ?_) rfl (by kernel_rfl) (by kernel_rfl) (by kernel_rfl) (fun _ _ _ h => h) (Or.inl ⟨by rfl, ?_⟩) (by assumption) ?_; rotate_left; focus (intro wS hSw; (first | obtain ⟨e1, e2, e3, e4⟩ := hSw | skip); go_simp; (try with_reducible rfl); done); (try simp only [Act.put, List.setIfInBounds_toArray, List.set_cons_zero, List.set_cons_succ]))
 refine wpAnyH_ready (rs := [2]) (by kernel_rfl) (by simp) ?_
 refine AllReadyH.cons (o := ⟨_, _, _, _, _, _⟩) rfl (fun KK hKK => ?_) AllReadyH.nil
 go_simp
 refine (tagged_any (fun g => p < g) n 160 _ _ _ _ (HND.out _ (KB.of (Nat.le_of_lt HB.out.2.1.2) (below_then HB.out.1 hbd1 (Nat.le_refl _)))) (by decide)).mono ?_
 rintro e w3 ⟨hb3, t3, B3, m3, n3, K3, u3, v3, rfl, hn3⟩
 dsimp only
 rw [H160.out] at hn3
 have hb3 := below_then hbd1 hb3 (Nat.le_refl _)
 refine hKK.out _ _ (HX.out _ hb3) (fun hHeld2 => ?_)
 clear hKK KK hHeld
 have hHeld := hHeld2
 clear hHeld2
 try simp only [Act.put, List.setIfInBounds_toArray, List.set_cons_zero, List.set_cons_succ]
 refine wpAnyH_ready (rs := [3]) (by kernel_rfl) (by simp) ?_
 refine AllReadyH.cons (o := ⟨_, _, _, _, _, _⟩) rfl (fun KK hKK => ?_) AllReadyH.nil
 go_simp
 refine (listed_any (fun g => p < g) m160 _ _ _ w3 hn3).mono ?_
 rintro e w4 ⟨hb4, A4, k4, rfl, i1, i2, hl4⟩
 dsimp only
 have hb4 := below_then hb3 hb4 (Nat.le_refl _)
 have hl16 : (listedF m160).length ≤ 1000 := by unfold listedF; rw [List.length_take]; omega
 refine hKK.out _ _ (HX.out _ hb4) (fun hHeld2 => ?_)
 clear hKK KK hHeld
 have hHeld := hHeld2
 clear hHeld2
 try simp only [Act.put, List.setIfInBounds_toArray, List.set_cons_zero, List.set_cons_succ]
 refine wpAnyH_ready (rs := [4]) (by kernel_rfl) (by simp) ?_
 refine AllReadyH.cons (o := ⟨_, _, _, _, _, _⟩) rfl (fun KK hKK => ?_) AllReadyH.nil
 go_simp
 refine (orZGN_any w4).mono ?_
 rintro e w5 ⟨q5, rfl, hq5, hq5b, hb5⟩
 dsimp only
 have hl5 := hl4.below hb5
 have hb5 := below_then hb4 hb5 (Nat.le_refl _)
 refine hKK.out _ _ (HX.out _ hb5) (fun hHeld2 => ?_)
 clear hKK KK hHeld
 have hHeld := hHeld2
 clear hHeld2
 try simp only [Act.put, List.setIfInBounds_toArray, List.set_cons_zero, List.set_cons_succ]
 refine wpAnyH_ready (rs := [5]) (by kernel_rfl) (by simp) ?_
 refine AllReadyH.cons (o := ⟨_, _, _, _, _, _⟩) rfl (fun KK hKK => ?_) AllReadyH.nil
 go_simp
 refine (eachNNm (fun g => p < g) getNZ 132 (.pointer (some ⟨q5, 0, none⟩)) A4 _ k4 (listedF m160) w5 rfl hl5 i1 i2 hl16 HENT.out (fun y _ V hV c0 c1 c2 hold => by
  obtain ⟨_, _, _, e, hnn⟩ := hold
  simp only [List.cons.injEq, and_true] at e
  obtain ⟨rfl, rfl, rfl⟩ := e
  exact getNZ_any _ y _ _ _ q5 V hnn ((hV.block q5 (Array.getElem?_eq_some_iff.1 hq5).1).trans hq5) (HTB.out V (((KB.of (Nat.le_of_lt HB.out.2.1.2) (below_then HB.out.1 hb5 (Nat.le_refl _)))).below (Nat.le_of_lt HB.out.2.1.2) hV).bel))).mono ?_
 rintro e w6 ⟨hb6, A6, c6, rfl, j1, j2, hl6⟩
 dsimp only
 have hlv : LsC nmE (fun g => p < g) w6 ((listedF m160).map getNZ) (.slice A6 (listedF m160).length c6) := ⟨A6, c6, by rw [List.length_map], j1, j2, hl6.mono (fun g hg => by have h1 := hb5.size; have h2 := HB.out.2.1.2; have h3 := HB.out.1.size; have h4 := HSZ1.out; omega)⟩
 have hb6 := below_then hb5 hb6 (Nat.le_refl _)
 refine hKK.out _ _ (HX.out _ hb6) (fun hHeld2 => ?_)
 clear hKK KK hHeld
 have hHeld := hHeld2
 clear hHeld2
 try simp only [Act.put, List.setIfInBounds_toArray, List.set_cons_zero, List.set_cons_succ]
 (refine wpAnyH_take (i := 6) (oi := ⟨_, _, _, _, _, _⟩) (v := ?_) rfl (by kernel_rfl) (by kernel_rfl) (by kernel_rfl) (fun _ _ _ h => h) (Or.inl ⟨by rfl, ?_⟩) (by assumption) ?_; rotate_left; focus (intro wS hSw; (first | obtain ⟨e1, e2, e3, e4⟩ := hSw | skip); go_simp; (try with_reducible rfl); done); (try simp only [Act.put, List.setIfInBounds_toArray, List.set_cons_zero, List.set_cons_succ]))
 (refine wpAnyH_take (i := 7) (oi := ⟨_, _, _, _, _, _⟩) (v := ?_) rfl (by kernel_rfl) (by kernel_rfl) (by kernel_rfl) (fun _ _ _ h => h) (Or.inl ⟨by rfl, ?_⟩) (by assumption) ?_; rotate_left; focus (intro wS hSw; (first | obtain ⟨e1, e2, e3, e4⟩ := hSw | skip); go_simp; (try with_reducible rfl); done); (try simp only [Act.put, List.setIfInBounds_toArray, List.set_cons_zero, List.set_cons_succ]))
 have hxb := HXB.out _ hb6
 have hpp := hxb.p
 have f0 := Lib.frozen_of_heap hpp 6
 have s0 := (Lib.cell_of_heap hpp 6).trans rfl
 have hfx := hxb.put6 HB.out.2.2 hlv
 have hkb := ((KB.of (Nat.le_of_lt HB.out.2.1.2) (below_then HB.out.1 hb6 (Nat.le_refl _)))).set 6 (.slice A6 (listedF m160).length c6)
 obtain ⟨z0, z1, z2, z3⟩ := (HX.out _ hb6)
 have hne : w.heap.size ≠ p := by have := HB.out.2.1.2; omega
 have hcb := And.intro ((cell_same (set_heap_other w6 p 6 q (.slice A6 (listedF m160).length c6) HB.out.2.2)).trans z0) (And.intro ((cell_same (set_heap_other w6 p 6 w.heap.size (.slice A6 (listedF m160).length c6) hne)).trans z1) (And.intro ((cell_same (set_heap_other w6 p 6 w.heap.size (.slice A6 (listedF m160).length c6) hne)).trans z2) ((cell_same (set_heap_other w6 p 6 w.heap.size (.slice A6 (listedF m160).length c6) hne)).trans z3)))
 refine wpAnyH_ready (rs := [8]) (by kernel_rfl) (by simp) ?_
 refine AllReadyH.cons (o := ⟨_, _, _, _, _, _⟩) rfl (fun KK hKK => ?_) AllReadyH.nil
 go_simp
 refine hKK.out _ _ hcb (fun hHeld2 => ?_)
 clear hKK KK hHeld
 have hHeld := hHeld2
 clear hHeld2
 try simp only [Act.put, List.setIfInBounds_toArray, List.set_cons_zero, List.set_cons_succ]
 refine wpAnyH_done (by kernel_rfl) ?_ _
 refine NoPanic.normal ?_
 obtain ⟨W1, hW1⟩ : ∃ y, w6.setCell ⟨p, 6, none⟩ (.slice A6 (listedF m160).length c6) = y := ⟨_, rfl⟩
 rw [hW1] at hcb hfx hkb ⊢
 have HKB := Lib.hid hkb
 have HFX := Lib.hid hfx
 have HX1 := Lib.hid (fun W (hW : Below W1.heap.size W1 W) => And.intro (cell_on hW hcb.1) (And.intro (cell_on hW hcb.2.1) (And.intro (cell_on hW hcb.2.2.1) (cell_on hW hcb.2.2.2))))
 have HSZ2 := Lib.hid (show w.heap.size ≤ W1.heap.size from hkb.bel.size)
 have HC1 := Lib.hid hcb
 clear hHeld hcb z0 z1 z2 z3 s0 f0 hpp hxb hfx hkb hne hlv hbd1 hb3 hb4 hb5 hb6 hl4 hl5 hl6 i1 i2 hl16 j1 j2 hq5 hq5b hn3 hW1 x0 x1 x2 d0
 obtain ⟨d0, x0, x1, x2⟩ := HC1.out
 clear HC1
 go_wp2_with fail
 try dsimp only
 refine wp_region_noPanic ?_
 refine wp_region_held_drew (S := fun wx : World => wx.cell? ⟨q, 0, none⟩ = some (.pointer (some ⟨p, 0, none⟩)) ∧ wx.cell? ⟨w.heap.size, 0, none⟩ = some (.int .u8 t) ∧ wx.cell? ⟨w.heap.size, 1, none⟩ = some (.slice A1 l1 k1) ∧ wx.cell? ⟨w.heap.size, 2, none⟩ = some (.slice K1 m1 u1)) mixed ⟨d0, x0, x1, x2⟩ (fun hHeld => ?_)
 have hbd2 := below_drew W1
 obtain ⟨wd2, hwd2⟩ : ∃ x, W1.drew = x := ⟨_, rfl⟩
 rw [hwd2] at hHeld hbd2 ⊢
 clear hwd2
 (refine wpAnyH_take (i := 0) (oi := ⟨_, _, _, _, _, _⟩) (v := ?_) rfl (by kernel_rfl) (by kernel_rfl) (by kernel_rfl) (fun _ _ _ h => h) (Or.inl ⟨by rfl, ?_⟩) (by assumption) ?_; rotate_left; focus (intro wS hSw; (first | obtain ⟨e1, e2, e3, e4⟩ := hSw | skip); go_simp; (try with_reducible rfl); done); (try simp only [Act.put, List.setIfInBounds_toArray, List.set_cons_zero, List.set_cons_succ]))
 (refine wpAnyH_take (i := 1) (oi := ⟨_, _, _, _, _, _⟩) (v := ?_) rfl (by kernel_rfl) (by kernel_rfl) (by kernel_rfl) (fun _ _ _ h => h) (Or.inl ⟨by rfl, ?_⟩) (by assumption) ?_; rotate_left; focus (intro wS hSw; (first | obtain ⟨e1, e2, e3, e4⟩ := hSw | skip); go_simp; (try with_reducible rfl); done); (try simp only [Act.put, List.setIfInBounds_toArray, List.set_cons_zero, List.set_cons_succ]))
 refine wpAnyH_ready (rs := [2]) (by kernel_rfl) (by simp) ?_
 refine AllReadyH.cons (o := ⟨_, _, _, _, _, _⟩) rfl (fun KK hKK => ?_) AllReadyH.nil
 go_simp
 refine (tagged_any (fun g => p < g) n 161 _ _ _ _ (HND.out _ (HKB.out.below (Nat.le_of_lt HB.out.2.1.2) hbd2)) (by decide)).mono ?_
 rintro e v3_ ⟨hb3, t3, B3, m3, n3, K3, u3, v3, rfl, hn3⟩
 dsimp only
 rw [H161.out] at hn3
 have hb3 := below_then hbd2 hb3 (Nat.le_refl _)
 refine hKK.out _ _ (HX1.out _ hb3) (fun hHeld2 => ?_)
 clear hKK KK hHeld
 have hHeld := hHeld2
 clear hHeld2
 try simp only [Act.put, List.setIfInBounds_toArray, List.set_cons_zero, List.set_cons_succ]
 refine wpAnyH_ready (rs := [3]) (by kernel_rfl) (by simp) ?_
 refine AllReadyH.cons (o := ⟨_, _, _, _, _, _⟩) rfl (fun KK hKK => ?_) AllReadyH.nil
 go_simp
 refine (listed_any (fun g => p < g) m161 _ _ _ v3_ hn3).mono ?_
 rintro e v4_ ⟨hb4, A4, k4, rfl, i1, i2, hl4⟩
 dsimp only
 have hb4 := below_then hb3 hb4 (Nat.le_refl _)
 have hl16 : (listedF m161).length ≤ 1000 := by unfold listedF; rw [List.length_take]; omega
 refine hKK.out _ _ (HX1.out _ hb4) (fun hHeld2 => ?_)
 clear hKK KK hHeld
 have hHeld := hHeld2
 clear hHeld2
 try simp only [Act.put, List.setIfInBounds_toArray, List.set_cons_zero, List.set_cons_succ]
 refine wpAnyH_ready (rs := [4]) (by kernel_rfl) (by simp) ?_
 refine AllReadyH.cons (o := ⟨_, _, _, _, _, _⟩) rfl (fun KK hKK => ?_) AllReadyH.nil
 go_simp
 refine (orZGN_any v4_).mono ?_
 rintro e v5_ ⟨q5, rfl, hq5, hq5b, hb5⟩
 dsimp only
 have hl5 := hl4.below hb5
 have hb5 := below_then hb4 hb5 (Nat.le_refl _)
 refine hKK.out _ _ (HX1.out _ hb5) (fun hHeld2 => ?_)
 clear hKK KK hHeld
 have hHeld := hHeld2
 clear hHeld2
 try simp only [Act.put, List.setIfInBounds_toArray, List.set_cons_zero, List.set_cons_succ]
 refine wpAnyH_ready (rs := [5]) (by kernel_rfl) (by simp) ?_
 refine AllReadyH.cons (o := ⟨_, _, _, _, _, _⟩) rfl (fun KK hKK => ?_) AllReadyH.nil
 go_simp
 refine (eachNNm (fun g => p < g) getNZ 132 (.pointer (some ⟨q5, 0, none⟩)) A4 _ k4 (listedF m161) v5_ rfl hl5 i1 i2 hl16 HENT.out (fun y _ V hV c0 c1 c2 hold => by
  obtain ⟨_, _, _, e, hnn⟩ := hold
  simp only [List.cons.injEq, and_true] at e
  obtain ⟨rfl, rfl, rfl⟩ := e
  exact getNZ_any _ y _ _ _ q5 V hnn ((hV.block q5 (Array.getElem?_eq_some_iff.1 hq5).1).trans hq5) (HTB.out V (((HKB.out.below (Nat.le_of_lt HB.out.2.1.2) hb5)).below (Nat.le_of_lt HB.out.2.1.2) hV).bel))).mono ?_
 rintro e v6_ ⟨hb6, A6, c6, rfl, j1, j2, hl6⟩
 dsimp only
 have hlv : LsC nmE (fun g => p < g) v6_ ((listedF m161).map getNZ) (.slice A6 (listedF m161).length c6) := ⟨A6, c6, by rw [List.length_map], j1, j2, hl6.mono (fun g hg => by have h1 := hb5.size; have h2 := HB.out.2.1.2; have h3 := HB.out.1.size; have h4 := HSZ2.out; omega)⟩
 have hb6 := below_then hb5 hb6 (Nat.le_refl _)
 refine hKK.out _ _ (HX1.out _ hb6) (fun hHeld2 => ?_)
 clear hKK KK hHeld
 have hHeld := hHeld2
 clear hHeld2
 try simp only [Act.put, List.setIfInBounds_toArray, List.set_cons_zero, List.set_cons_succ]
 (refine wpAnyH_take (i := 6) (oi := ⟨_, _, _, _, _, _⟩) (v := ?_) rfl (by kernel_rfl) (by kernel_rfl) (by kernel_rfl) (fun _ _ _ h => h) (Or.inl ⟨by rfl, ?_⟩) (by assumption) ?_; rotate_left; focus (intro wS hSw; (first | obtain ⟨e1, e2, e3, e4⟩ := hSw | skip); go_simp; (try with_reducible rfl); done); (try simp only [Act.put, List.setIfInBounds_toArray, List.set_cons_zero, List.set_cons_succ]))
 (refine wpAnyH_take (i := 7) (oi := ⟨_, _, _, _, _, _⟩) (v := ?_) rfl (by kernel_rfl) (by kernel_rfl) (by kernel_rfl) (fun _ _ _ h => h) (Or.inl ⟨by rfl, ?_⟩) (by assumption) ?_; rotate_left; focus (intro wS hSw; (first | obtain ⟨e1, e2, e3, e4⟩ := hSw | skip); go_simp; (try with_reducible rfl); done); (try simp only [Act.put, List.setIfInBounds_toArray, List.set_cons_zero, List.set_cons_succ]))
 have hxb := HFX.out.below hb6
 have hpp := hxb.p
 have f0 := Lib.frozen_of_heap hpp 7
 have s0 := (Lib.cell_of_heap hpp 7).trans rfl
 have hfx := hxb.put7 HB.out.2.2 hlv
 have hkb := ((HKB.out.below (Nat.le_of_lt HB.out.2.1.2) hb6)).set 7 (.slice A6 (listedF m161).length c6)
 obtain ⟨z0, z1, z2, z3⟩ := (HX1.out _ hb6)
 have hne : w.heap.size ≠ p := by have := HB.out.2.1.2; omega
 have hcb := And.intro ((cell_same (set_heap_other v6_ p 7 q (.slice A6 (listedF m161).length c6) HB.out.2.2)).trans z0) (And.intro ((cell_same (set_heap_other v6_ p 7 w.heap.size (.slice A6 (listedF m161).length c6) hne)).trans z1) (And.intro ((cell_same (set_heap_other v6_ p 7 w.heap.size (.slice A6 (listedF m161).length c6) hne)).trans z2) ((cell_same (set_heap_other v6_ p 7 w.heap.size (.slice A6 (listedF m161).length c6) hne)).trans z3)))
 refine wpAnyH_ready (rs := [8]) (by kernel_rfl) (by simp) ?_
 refine AllReadyH.cons (o := ⟨_, _, _, _, _, _⟩) rfl (fun KK hKK => ?_) AllReadyH.nil
 go_simp
 refine hKK.out _ _ hcb (fun hHeld2 => ?_)
 clear hKK KK hHeld
 have hHeld := hHeld2
 clear hHeld2
 try simp only [Act.put, List.setIfInBounds_toArray, List.set_cons_zero, List.set_cons_succ]
 refine wpAnyH_done (by kernel_rfl) ?_ _
 refine NoPanic.normal ?_
 have HE := Lib.hid (And.intro hkb hfx)
 clear hHeld hcb z0 z1 z2 z3 s0 f0 hpp hxb hfx hkb hne hlv hbd2 hb3 hb4 hb5 hb6 hl4 hl5 hl6 i1 i2 hl16 j1 j2 hq5 hq5b hn3 x0 x1 x2 d0
 go_wp2_with fail
 first | refine bodyPost_ret (results_none rfl _ _ _) rfl ?_ | refine bodyPost_normal (results_none rfl _ _ _) rfl ?_ | go_end0
 exact ⟨rfl, HE.out.1, _, _, _, _, _, _, _, _, _, by rw [← HFIN.out]; exact HE.out.2⟩
end Go.Proofs.YtdcpggodlggjjaaGreatDoor.nmc
