/- The program's GetPrinc. -/
import Derived.Test.YthcancakkkjpaaaGreatDoorRy
namespace Go.Proofs.YthcancakkkjpaaaGreatDoor.nmc
open Go.RowKit Go.Proofs.YthcancakkkjpaaaGreatDoor.tlvc Go.Proofs.YthcancakkkjpaaaGreatDoor.tlvd Go.Proofs.YthcancakkkjpaaaGreatDoor.ndc Go.Proofs.YthcancakkkjpaaaGreatDoor.txc Go.Proofs.YthcancakkkjpaaaGreatDoor.txm Go.Proofs.YthcancakkkjpaaaGreatDoor.intc Go.Proofs.YthcancakkkjpaaaGreatDoor.intm
set_option linter.unusedVariables false
set_option linter.unusedSimpArgs false
/-- What GetPrinc answers. -/
def GetPPost (w : World) (r : Option Pr) (e : Ending) (w' : World) : Prop :=
  Below w.heap.size w w' ∧ match r with
    | none => e = .returned (.tuple #[.agg #[.string ⟨#[]⟩, .slice none 0 0], .int .i64 91])
    | some p => ∃ s A l c, e = .returned (.tuple #[.agg #[.string s, .slice A l c], .int .i64 0]) ∧ PrC (fun _ => True) w' p (.string s) (.slice A l c)
theorem PrC.on {B B' : Nat → Prop} {w w' : World} {p : Pr} {c0 c1 : Value} (h : PrC B w p c0 c1) (hs : w.heap.size ≤ w'.heap.size) (hk : ∀ g, B g → g < w.heap.size → w'.heap[g]? = w.heap[g]?) (hB : ∀ g, B g → g < w.heap.size → B' g) : PrC B' w' p c0 c1 := by
  obtain ⟨A, c, h0, h1, h2, h3, h4, h5⟩ := h
  exact ⟨A, c, h0, h1, h2, h3, h4.on hs hk hB, h5⟩
theorem kept_row {β : Type} {xs ys : List β} (h : xs = ys) : xs = ys := h
/-- Two stores into a result's cells. -/
theorem res2 {w W : World} {b : Nat} {x0 x1 y0 y1 : Value} {T : TypeId} {fr : Nat × Nat} (hb : w.heap.size ≤ b) (hB : Below w.heap.size w W) (hres : W.heap[b]? = some (.cells #[x0, x1] T fr)) :
    ((W.setCell ⟨b, 0, none⟩ y0).setCell ⟨b, 1, none⟩ y1).cell? ⟨b, 0, none⟩ = some y0 ∧ ((W.setCell ⟨b, 0, none⟩ y0).setCell ⟨b, 1, none⟩ y1).cell? ⟨b, 1, none⟩ = some y1 ∧ Below w.heap.size w ((W.setCell ⟨b, 0, none⟩ y0).setCell ⟨b, 1, none⟩ y1) ∧ (∀ g, g ≠ b → ((W.setCell ⟨b, 0, none⟩ y0).setCell ⟨b, 1, none⟩ y1).heap[g]? = W.heap[g]?) ∧ ((W.setCell ⟨b, 0, none⟩ y0).setCell ⟨b, 1, none⟩ y1).heap.size = W.heap.size := by
  have hset := set_heap _ _ 1 y1 _ _ _ (set_heap _ _ 0 y0 _ _ _ hres)
  exact ⟨(Lib.cell_of_heap hset 0).trans rfl, (Lib.cell_of_heap hset 1).trans rfl, (hB.setCell (p := ⟨b, 0, none⟩) hb _).setCell (p := ⟨b, 1, none⟩) hb _, fun g hg => by rw [set_heap_other _ _ _ _ _ hg, set_heap_other _ _ _ _ _ hg], by rw [set_size, set_size]⟩
set_option maxRecDepth 100000 in
set_option maxHeartbeats 8000000 in
theorem getPrinc_any (B : Nat → Prop) (n : Nd) (c0 c1 c2 : Value) (w : World) (hn : NdC B w n c0 c1 c2) (hT : Tabs w) :
    Calls Tryz.prog 8 #[.agg #[c0, c1, c2]] w (GetPPost w (getP n)) := by
  have mixed : Tryz.prog.follows Departure.mixedOrders = true := by kernel_rfl
  obtain ⟨t, A1, l1, k1, K1, m1, n1, rfl, rfl, rfl⟩ := hn.shape
  obtain ⟨W0, hW0⟩ : ∃ x, (w.alloc (.cells #[.int .u8 t, .slice A1 l1 k1, .slice K1 m1 n1] 25)).alloc (.cells #[.string ⟨#[]⟩, .slice none 0 0] 35) = x := ⟨_, rfl⟩
  have hb0 : Below w.heap.size w W0 := by rw [← hW0]; exact (below_new _ _).alloc (by simp) _
  have hz0 : W0.heap.size = w.heap.size + 2 := by rw [← hW0]; simp
  have p0 : W0.heap[w.heap.size + 1]? = some (.cells #[.string ⟨#[]⟩, .slice none 0 0] 35) := by rw [← hW0]; exact heap_is (by simp)
  have q0 : W0.heap[w.heap.size]? = some (.cells #[.int .u8 t, .slice A1 l1 k1, .slice K1 m1 n1] 25) := by rw [← hW0, heap_old_ _ _ (by simp)]; exact heap_new_ _ _
  obtain ⟨x0, x1, x2⟩ := box_nd (Below.refl _ W0) q0
  have hk1 := kidAt_any B n 1 _ _ _ W0 (NdC.below hb0 _ _ _ _ hn) (by omega)
  have hk0 := fun W (hW : Below W0.heap.size W0 W) => kidAt_any B n 0 _ _ _ W (NdC.below (below_then hb0 hW (Nat.le_refl _)) _ _ _ _ hn) (by omega)
  have htold : toldP n = ⟨strOfNums (kidF n 0).body, ((kidF n 1).kids.take 8).map btxt⟩ := rfl
  have hpa := fun (m : Nd) (c0 c1 c2 : Value) (W : World) (hW : Below W0.heap.size W0 W) (hm : NdC (fun _ => True) W m c0 c1 c2) => partsS_any (fun _ => True) m c0 c1 c2 W hm
  rw [getP_back]
  obtain ⟨p, hp⟩ : ∃ x, toldP n = x := ⟨_, rfl⟩
  rw [hp] at htold ⊢
  have has := fun (d0 d1 : Value) (W : World) (hW : Below W0.heap.size W0 W) (hd : PrC (fun _ => True) W p d0 d1) => asPutP_any B (fun _ => True) n p d0 d1 _ _ _ W (NdC.below (below_then hb0 hW (Nat.le_refl _)) _ _ _ _ hn) hd (hT.below (below_then hb0 hW (Nat.le_refl _)))
  obtain ⟨bk, hbk⟩ : ∃ x, backP p n = x := ⟨_, rfl⟩
  rw [hbk] at has ⊢
  obtain ⟨R, hR⟩ : ∃ x, (if bk = true then some p else none) = x := ⟨_, rfl⟩
  rw [hR]
  have HR := Lib.hid hR
  have HT := Lib.hid htold
  have HK1 := Lib.hid hk1
  have HK0 := Lib.hid hk0
  have HPA := Lib.hid hpa
  have HAS := Lib.hid has
  have HX := Lib.hid (fun W (hW : Below W0.heap.size W0 W) => box_nd hW q0)
  have HB := Lib.hid (And.intro hb0 (And.intro p0 hz0))
  clear hk1 hk0 htold hpa has hb0 p0 q0 hz0 hp hbk hR hn hT
  cases bk
  · have hR : none = R := HR.out
    subst hR
    go_enter Tryz.func8, Tryz.ntmps8
    go_wp2_with fail
    refine HK1.out.mono ?_
    rintro e w1 ⟨hb1, t2, A2, l2, k2, K2, m2, n2, rfl, hn2⟩
    have hcall := HPA.out _ _ _ _ w1 hb1 hn2
    have HC := Lib.hid hcall
    have HB1 := Lib.hid hb1
    clear hcall hb1 hn2 HK1 HPA x0 x1 x2
    go_wp2_with fail
    refine HC.out.mono ?_
    rintro e w2 ⟨hb2, A, c, rfl, h1, h2, hL⟩
    have hb2 := below_then HB1.out hb2 (Nat.le_refl _)
    obtain ⟨L, hLe⟩ : ∃ x, (List.map btxt (List.take 8 (kidF n 1).kids)).length = x := ⟨_, rfl⟩
    rw [hLe] at h1 ⊢
    have hw1 := HB1.out.size
    have hL := hL.mono (S' := fun g => w.heap.size + 2 ≤ g) (fun g hg => by have := HB.out.2.2; omega)
    have HLS := Lib.hid (And.intro hLe (And.intro h1 (And.intro h2 hL)))
    clear hw1
    have HB2 := Lib.hid hb2
    obtain ⟨x0, x1, x2⟩ := HX.out w2 hb2
    clear hb2 h1 h2 hL hLe HC HB1
    go_wp2_with fail
    try dsimp only
    refine wp_region_noPanic ?_
    refine wp_region_held_drew (S := fun wx : World => wx.cell? ⟨w.heap.size, 0, none⟩ = some (.int .u8 t) ∧ wx.cell? ⟨w.heap.size, 1, none⟩ = some (.slice A1 l1 k1) ∧ wx.cell? ⟨w.heap.size, 2, none⟩ = some (.slice K1 m1 n1)) mixed ⟨x0, x1, x2⟩ (fun hHeld => ?_)
    have hbd := below_drew w2
    obtain ⟨wd, hwd⟩ : ∃ x, w2.drew = x := ⟨_, rfl⟩
    rw [hwd] at hHeld hbd ⊢
    clear hwd
    have hbd0 := below_then HB2.out hbd (Nat.le_refl _)
    (refine wpAnyH_take (i := 0) (oi := ⟨_, _, _, _, _, _⟩) (v := ?_) rfl (by kernel_rfl) (by kernel_rfl) (by kernel_rfl) (fun _ _ _ h => h) (Or.inl ⟨by rfl, ?_⟩) (by assumption) ?_; rotate_left; focus (intro wS hSw; (first | obtain ⟨c1, c2, c3⟩ := hSw | skip); go_simp; (try with_reducible rfl); done); (try simp only [Act.put, List.setIfInBounds_toArray, List.set_cons_zero, List.set_cons_succ]))
    (refine wpAnyH_take (i := 1) (oi := ⟨_, _, _, _, _, _⟩) (v := ?_) rfl (by kernel_rfl) (by kernel_rfl) (by kernel_rfl) (fun _ _ _ h => h) (Or.inl ⟨by rfl, ?_⟩) (by assumption) ?_; rotate_left; focus (intro wS hSw; (first | obtain ⟨c1, c2, c3⟩ := hSw | skip); go_simp; (try with_reducible rfl); done); (try simp only [Act.put, List.setIfInBounds_toArray, List.set_cons_zero, List.set_cons_succ]))
    (refine wpAnyH_take (i := 5) (oi := ⟨_, _, _, _, _, _⟩) (v := ?_) rfl (by kernel_rfl) (by kernel_rfl) (by kernel_rfl) (fun _ _ _ h => h) (Or.inl ⟨by rfl, ?_⟩) (by assumption) ?_; rotate_left; focus (intro wS hSw; (first | obtain ⟨c1, c2, c3⟩ := hSw | skip); go_simp; (try with_reducible rfl); done); (try simp only [Act.put, List.setIfInBounds_toArray, List.set_cons_zero, List.set_cons_succ]))
    refine wpAnyH_ready (rs := [2]) (by kernel_rfl) (by simp) ?_
    refine AllReadyH.cons (o := ⟨_, _, _, _, _, _⟩) rfl (fun KK hKK => ?_) AllReadyH.nil
    go_simp
    refine (HK0.out _ hbd0).mono ?_
    rintro e w3 ⟨hb3, t3, A3, l3, k3, K3, m3, n3, rfl, hn3⟩
    dsimp only
    obtain ⟨g1, g2, g3, g4⟩ := body_size hn3
    have hcv := intc.str_now g3 k3
    have hz : (strOfNums (kidF n 0).body).size ≤ maxLen := by rw [strOfNums_size, g4]; exact Nat.le_trans g1 g2
    have hfd := fld1 t3 A3 l3 k3 K3 m3 n3
    have hb3' := below_then hbd hb3 (Nat.le_refl _)
    have hb3 := below_then hbd0 hb3 (Nat.le_refl _)
    have hpp : PrC (fun g => w.heap.size + 2 ≤ g) w3 p (.string (strOfNums (kidF n 0).body)) (.slice A L c) := by
      rw [HT.out]
      exact ⟨A, c, rfl, by show Value.slice A L c = Value.slice A (List.map btxt (List.take 8 (kidF n 1).kids)).length c; rw [HLS.out.1], by show (List.map btxt (List.take 8 (kidF n 1).kids)).length ≤ c; rw [HLS.out.1]; exact HLS.out.2.1, HLS.out.2.2.1, HLS.out.2.2.2.below hb3', hz⟩
    obtain ⟨s, hs⟩ : ∃ x, strOfNums (kidF n 0).body = x := ⟨_, rfl⟩
    rw [hs] at hcv hpp
    have hcall := HAS.out _ _ w3 hb3 (hpp.on (Nat.le_refl _) (fun _ _ _ => rfl) (fun _ _ _ => trivial))
    have HC := Lib.hid hcall
    have HPP := Lib.hid hpp
    clear hcall hs hz hn3 g1 g2 g3 g4
    refine hKK.out _ _ (HX.out w3 hb3) (fun hHeld2 => ?_)
    clear hKK KK hHeld
    have hHeld := hHeld2
    clear hHeld2
    try simp only [Act.put, List.setIfInBounds_toArray, List.set_cons_zero, List.set_cons_succ]
    (refine wpAnyH_take (i := 3) (oi := ⟨_, _, _, _, _, _⟩) (v := ?_) rfl (by kernel_rfl) (by kernel_rfl) (by kernel_rfl) (fun _ _ _ h => h) (Or.inl ⟨by rfl, ?_⟩) (by assumption) ?_; rotate_left; focus (intro wS hSw; (first | obtain ⟨c1, c2, c3⟩ := hSw | skip); go_simp; (try with_reducible rfl); done); (try simp only [Act.put, List.setIfInBounds_toArray, List.set_cons_zero, List.set_cons_succ]))
    refine wpAnyH_ready (rs := [4]) (by kernel_rfl) (by simp) ?_
    refine AllReadyH.cons (o := ⟨_, _, _, _, _, _⟩) rfl (fun KK hKK => ?_) AllReadyH.nil
    go_simp
    refine hKK.out _ _ (HX.out w3 hb3) (fun hHeld2 => ?_)
    clear hKK KK hHeld
    have hHeld := hHeld2
    clear hHeld2
    try simp only [Act.put, List.setIfInBounds_toArray, List.set_cons_zero, List.set_cons_succ]
    (refine wpAnyH_take (i := 6) (oi := ⟨_, _, _, _, _, _⟩) (v := ?_) rfl (by kernel_rfl) (by kernel_rfl) (by kernel_rfl) (fun _ _ _ h => h) (Or.inl ⟨by rfl, ?_⟩) (by assumption) ?_; rotate_left; focus (intro wS hSw; (first | obtain ⟨c1, c2, c3⟩ := hSw | skip); go_simp; (try with_reducible rfl); done); (try simp only [Act.put, List.setIfInBounds_toArray, List.set_cons_zero, List.set_cons_succ]))
    refine wpAnyH_ready (rs := [7]) (by kernel_rfl) (by simp) ?_
    refine AllReadyH.cons (o := ⟨_, _, _, _, _, _⟩) rfl (fun KK hKK => ?_) AllReadyH.nil
    go_simp
    refine HC.out.mono ?_
    rintro e w4 ⟨hb4, he⟩
    have he : e = .returned (.tuple #[.agg #[.string ⟨#[]⟩, .slice none 0 0], .int .i64 91]) := he
    subst he
    dsimp only
    have hb4' := hb4
    have hb4 := below_then hb3 hb4 (Nat.le_refl _)
    refine hKK.out _ _ (HX.out w4 hb4) (fun hHeld2 => ?_)
    clear hKK KK hHeld
    have hHeld := hHeld2
    clear hHeld2
    try simp only [Act.put, List.setIfInBounds_toArray, List.set_cons_zero, List.set_cons_succ]
    (refine wpAnyH_take (i := 8) (oi := ⟨_, _, _, _, _, _⟩) (v := ?_) rfl (by kernel_rfl) (by kernel_rfl) (by kernel_rfl) (fun _ _ _ h => h) (Or.inl ⟨by rfl, ?_⟩) (by assumption) ?_; rotate_left; focus (intro wS hSw; (first | obtain ⟨c1, c2, c3⟩ := hSw | skip); go_simp; (try with_reducible rfl); done); (try simp only [Act.put, List.setIfInBounds_toArray, List.set_cons_zero, List.set_cons_succ]))
    (refine wpAnyH_take (i := 9) (oi := ⟨_, _, _, _, _, _⟩) (v := ?_) rfl (by kernel_rfl) (by kernel_rfl) (by kernel_rfl) (fun _ _ _ h => h) (Or.inl ⟨by rfl, ?_⟩) (by assumption) ?_; rotate_left; focus (intro wS hSw; (first | obtain ⟨c1, c2, c3⟩ := hSw | skip); go_simp; (try with_reducible rfl); done); (try simp only [Act.put, List.setIfInBounds_toArray, List.set_cons_zero, List.set_cons_succ]))
    have p4 := (hb4.block _ (by have := HB.out.2.2; omega)).trans HB.out.2.1
    obtain ⟨r0, r1, hBr, hoth, hszr⟩ := res2 (y0 := (.string ⟨#[]⟩)) (y1 := (.slice none 0 0)) (Nat.le_succ _) (below_then HB.out.1 hb4 (Nat.le_refl _)) p4
    have f0 := Lib.frozen_of_heap p4 0
    have f1 := Lib.frozen_of_heap p4 1
    have s0 := (Lib.cell_of_heap p4 0).trans rfl
    have s1 := (Lib.cell_of_heap p4 1).trans rfl
    obtain ⟨z0, z1, z2⟩ := HX.out w4 hb4
    have hcb : ((w4.setCell ⟨w.heap.size + 1, 0, none⟩ (.string ⟨#[]⟩)).setCell ⟨w.heap.size + 1, 1, none⟩ (.slice none 0 0)).cell? ⟨w.heap.size, 0, none⟩ = some (.int .u8 t) ∧ ((w4.setCell ⟨w.heap.size + 1, 0, none⟩ (.string ⟨#[]⟩)).setCell ⟨w.heap.size + 1, 1, none⟩ (.slice none 0 0)).cell? ⟨w.heap.size, 1, none⟩ = some (.slice A1 l1 k1) ∧ ((w4.setCell ⟨w.heap.size + 1, 0, none⟩ (.string ⟨#[]⟩)).setCell ⟨w.heap.size + 1, 1, none⟩ (.slice none 0 0)).cell? ⟨w.heap.size, 2, none⟩ = some (.slice K1 m1 n1) :=
      ⟨(cell_same (hoth w.heap.size (by omega))).trans z0, (cell_same (hoth w.heap.size (by omega))).trans z1, (cell_same (hoth w.heap.size (by omega))).trans z2⟩
    have HE := Lib.hid hBr
    refine wpAnyH_ready (rs := [10]) (by kernel_rfl) (by simp) ?_
    refine AllReadyH.cons (o := ⟨_, _, _, _, _, _⟩) rfl (fun KK hKK => ?_) AllReadyH.nil
    go_simp
    refine hKK.out _ _ hcb (fun hHeld2 => ?_)
    clear hKK KK hHeld
    have hHeld := hHeld2
    clear hHeld2
    try simp only [Act.put, List.setIfInBounds_toArray, List.set_cons_zero, List.set_cons_succ]
    (refine wpAnyH_take (i := 11) (oi := ⟨_, _, _, _, _, _⟩) (v := ?_) rfl (by kernel_rfl) (by kernel_rfl) (by kernel_rfl) (fun _ _ _ h => h) (Or.inl ⟨by rfl, ?_⟩) (by assumption) ?_; rotate_left; focus (intro wS hSw; (first | obtain ⟨c1, c2, c3⟩ := hSw | skip); go_simp; (try with_reducible rfl); done); (try simp only [Act.put, List.setIfInBounds_toArray, List.set_cons_zero, List.set_cons_succ]))
    refine wpAnyH_done (by kernel_rfl) ?_ _
    refine NoPanic.normal ?_
    clear hHeld hcb z0 z1 z2 s0 s1 f0 f1 p4 hoth hszr hb4 hb4' hb3 hb3' hbd hbd0 HC x0 x1 x2
    go_wp2_with fail
    refine bodyPost_ret (v := .tuple #[.agg #[.string ⟨#[]⟩, .slice none 0 0], .int .i64 91]) ?_ rfl ⟨HE.out, rfl⟩
    simp [results, Tryz.results8, go_sem, r0, r1]
  · have hR : some p = R := HR.out
    subst hR
    go_enter Tryz.func8, Tryz.ntmps8
    go_wp2_with fail
    refine HK1.out.mono ?_
    rintro e w1 ⟨hb1, t2, A2, l2, k2, K2, m2, n2, rfl, hn2⟩
    have hcall := HPA.out _ _ _ _ w1 hb1 hn2
    have HC := Lib.hid hcall
    have HB1 := Lib.hid hb1
    clear hcall hb1 hn2 HK1 HPA x0 x1 x2
    go_wp2_with fail
    refine HC.out.mono ?_
    rintro e w2 ⟨hb2, A, c, rfl, h1, h2, hL⟩
    have hb2 := below_then HB1.out hb2 (Nat.le_refl _)
    obtain ⟨L, hLe⟩ : ∃ x, (List.map btxt (List.take 8 (kidF n 1).kids)).length = x := ⟨_, rfl⟩
    rw [hLe] at h1 ⊢
    have hw1 := HB1.out.size
    have hL := hL.mono (S' := fun g => w.heap.size + 2 ≤ g) (fun g hg => by have := HB.out.2.2; omega)
    have HLS := Lib.hid (And.intro hLe (And.intro h1 (And.intro h2 hL)))
    clear hw1
    have HB2 := Lib.hid hb2
    obtain ⟨x0, x1, x2⟩ := HX.out w2 hb2
    clear hb2 h1 h2 hL hLe HC HB1
    go_wp2_with fail
    try dsimp only
    refine wp_region_noPanic ?_
    refine wp_region_held_drew (S := fun wx : World => wx.cell? ⟨w.heap.size, 0, none⟩ = some (.int .u8 t) ∧ wx.cell? ⟨w.heap.size, 1, none⟩ = some (.slice A1 l1 k1) ∧ wx.cell? ⟨w.heap.size, 2, none⟩ = some (.slice K1 m1 n1)) mixed ⟨x0, x1, x2⟩ (fun hHeld => ?_)
    have hbd := below_drew w2
    obtain ⟨wd, hwd⟩ : ∃ x, w2.drew = x := ⟨_, rfl⟩
    rw [hwd] at hHeld hbd ⊢
    clear hwd
    have hbd0 := below_then HB2.out hbd (Nat.le_refl _)
    (refine wpAnyH_take (i := 0) (oi := ⟨_, _, _, _, _, _⟩) (v := ?_) rfl (by kernel_rfl) (by kernel_rfl) (by kernel_rfl) (fun _ _ _ h => h) (Or.inl ⟨by rfl, ?_⟩) (by assumption) ?_; rotate_left; focus (intro wS hSw; (first | obtain ⟨c1, c2, c3⟩ := hSw | skip); go_simp; (try with_reducible rfl); done); (try simp only [Act.put, List.setIfInBounds_toArray, List.set_cons_zero, List.set_cons_succ]))
    (refine wpAnyH_take (i := 1) (oi := ⟨_, _, _, _, _, _⟩) (v := ?_) rfl (by kernel_rfl) (by kernel_rfl) (by kernel_rfl) (fun _ _ _ h => h) (Or.inl ⟨by rfl, ?_⟩) (by assumption) ?_; rotate_left; focus (intro wS hSw; (first | obtain ⟨c1, c2, c3⟩ := hSw | skip); go_simp; (try with_reducible rfl); done); (try simp only [Act.put, List.setIfInBounds_toArray, List.set_cons_zero, List.set_cons_succ]))
    (refine wpAnyH_take (i := 5) (oi := ⟨_, _, _, _, _, _⟩) (v := ?_) rfl (by kernel_rfl) (by kernel_rfl) (by kernel_rfl) (fun _ _ _ h => h) (Or.inl ⟨by rfl, ?_⟩) (by assumption) ?_; rotate_left; focus (intro wS hSw; (first | obtain ⟨c1, c2, c3⟩ := hSw | skip); go_simp; (try with_reducible rfl); done); (try simp only [Act.put, List.setIfInBounds_toArray, List.set_cons_zero, List.set_cons_succ]))
    refine wpAnyH_ready (rs := [2]) (by kernel_rfl) (by simp) ?_
    refine AllReadyH.cons (o := ⟨_, _, _, _, _, _⟩) rfl (fun KK hKK => ?_) AllReadyH.nil
    go_simp
    refine (HK0.out _ hbd0).mono ?_
    rintro e w3 ⟨hb3, t3, A3, l3, k3, K3, m3, n3, rfl, hn3⟩
    dsimp only
    obtain ⟨g1, g2, g3, g4⟩ := body_size hn3
    have hcv := intc.str_now g3 k3
    have hz : (strOfNums (kidF n 0).body).size ≤ maxLen := by rw [strOfNums_size, g4]; exact Nat.le_trans g1 g2
    have hfd := fld1 t3 A3 l3 k3 K3 m3 n3
    have hb3' := below_then hbd hb3 (Nat.le_refl _)
    have hb3 := below_then hbd0 hb3 (Nat.le_refl _)
    have hpp : PrC (fun g => w.heap.size + 2 ≤ g) w3 p (.string (strOfNums (kidF n 0).body)) (.slice A L c) := by
      rw [HT.out]
      exact ⟨A, c, rfl, by show Value.slice A L c = Value.slice A (List.map btxt (List.take 8 (kidF n 1).kids)).length c; rw [HLS.out.1], by show (List.map btxt (List.take 8 (kidF n 1).kids)).length ≤ c; rw [HLS.out.1]; exact HLS.out.2.1, HLS.out.2.2.1, HLS.out.2.2.2.below hb3', hz⟩
    obtain ⟨s, hs⟩ : ∃ x, strOfNums (kidF n 0).body = x := ⟨_, rfl⟩
    rw [hs] at hcv hpp
    have hcall := HAS.out _ _ w3 hb3 (hpp.on (Nat.le_refl _) (fun _ _ _ => rfl) (fun _ _ _ => trivial))
    have HC := Lib.hid hcall
    have HPP := Lib.hid hpp
    clear hcall hs hz hn3 g1 g2 g3 g4
    refine hKK.out _ _ (HX.out w3 hb3) (fun hHeld2 => ?_)
    clear hKK KK hHeld
    have hHeld := hHeld2
    clear hHeld2
    try simp only [Act.put, List.setIfInBounds_toArray, List.set_cons_zero, List.set_cons_succ]
    (refine wpAnyH_take (i := 3) (oi := ⟨_, _, _, _, _, _⟩) (v := ?_) rfl (by kernel_rfl) (by kernel_rfl) (by kernel_rfl) (fun _ _ _ h => h) (Or.inl ⟨by rfl, ?_⟩) (by assumption) ?_; rotate_left; focus (intro wS hSw; (first | obtain ⟨c1, c2, c3⟩ := hSw | skip); go_simp; (try with_reducible rfl); done); (try simp only [Act.put, List.setIfInBounds_toArray, List.set_cons_zero, List.set_cons_succ]))
    refine wpAnyH_ready (rs := [4]) (by kernel_rfl) (by simp) ?_
    refine AllReadyH.cons (o := ⟨_, _, _, _, _, _⟩) rfl (fun KK hKK => ?_) AllReadyH.nil
    go_simp
    refine hKK.out _ _ (HX.out w3 hb3) (fun hHeld2 => ?_)
    clear hKK KK hHeld
    have hHeld := hHeld2
    clear hHeld2
    try simp only [Act.put, List.setIfInBounds_toArray, List.set_cons_zero, List.set_cons_succ]
    (refine wpAnyH_take (i := 6) (oi := ⟨_, _, _, _, _, _⟩) (v := ?_) rfl (by kernel_rfl) (by kernel_rfl) (by kernel_rfl) (fun _ _ _ h => h) (Or.inl ⟨by rfl, ?_⟩) (by assumption) ?_; rotate_left; focus (intro wS hSw; (first | obtain ⟨c1, c2, c3⟩ := hSw | skip); go_simp; (try with_reducible rfl); done); (try simp only [Act.put, List.setIfInBounds_toArray, List.set_cons_zero, List.set_cons_succ]))
    refine wpAnyH_ready (rs := [7]) (by kernel_rfl) (by simp) ?_
    refine AllReadyH.cons (o := ⟨_, _, _, _, _, _⟩) rfl (fun KK hKK => ?_) AllReadyH.nil
    go_simp
    refine HC.out.mono ?_
    rintro e w4 ⟨hb4, he⟩
    have he : e = .returned (.tuple #[.agg #[.string s, .slice A L c], .int .i64 0]) := he
    subst he
    dsimp only
    have hb4' := hb4
    have hb4 := below_then hb3 hb4 (Nat.le_refl _)
    refine hKK.out _ _ (HX.out w4 hb4) (fun hHeld2 => ?_)
    clear hKK KK hHeld
    have hHeld := hHeld2
    clear hHeld2
    try simp only [Act.put, List.setIfInBounds_toArray, List.set_cons_zero, List.set_cons_succ]
    (refine wpAnyH_take (i := 8) (oi := ⟨_, _, _, _, _, _⟩) (v := ?_) rfl (by kernel_rfl) (by kernel_rfl) (by kernel_rfl) (fun _ _ _ h => h) (Or.inl ⟨by rfl, ?_⟩) (by assumption) ?_; rotate_left; focus (intro wS hSw; (first | obtain ⟨c1, c2, c3⟩ := hSw | skip); go_simp; (try with_reducible rfl); done); (try simp only [Act.put, List.setIfInBounds_toArray, List.set_cons_zero, List.set_cons_succ]))
    (refine wpAnyH_take (i := 9) (oi := ⟨_, _, _, _, _, _⟩) (v := ?_) rfl (by kernel_rfl) (by kernel_rfl) (by kernel_rfl) (fun _ _ _ h => h) (Or.inl ⟨by rfl, ?_⟩) (by assumption) ?_; rotate_left; focus (intro wS hSw; (first | obtain ⟨c1, c2, c3⟩ := hSw | skip); go_simp; (try with_reducible rfl); done); (try simp only [Act.put, List.setIfInBounds_toArray, List.set_cons_zero, List.set_cons_succ]))
    have p4 := (hb4.block _ (by have := HB.out.2.2; omega)).trans HB.out.2.1
    obtain ⟨r0, r1, hBr, hoth, hszr⟩ := res2 (y0 := (.string s)) (y1 := (.slice A L c)) (Nat.le_succ _) (below_then HB.out.1 hb4 (Nat.le_refl _)) p4
    have f0 := Lib.frozen_of_heap p4 0
    have f1 := Lib.frozen_of_heap p4 1
    have s0 := (Lib.cell_of_heap p4 0).trans rfl
    have s1 := (Lib.cell_of_heap p4 1).trans rfl
    obtain ⟨z0, z1, z2⟩ := HX.out w4 hb4
    have hcb : ((w4.setCell ⟨w.heap.size + 1, 0, none⟩ (.string s)).setCell ⟨w.heap.size + 1, 1, none⟩ (.slice A L c)).cell? ⟨w.heap.size, 0, none⟩ = some (.int .u8 t) ∧ ((w4.setCell ⟨w.heap.size + 1, 0, none⟩ (.string s)).setCell ⟨w.heap.size + 1, 1, none⟩ (.slice A L c)).cell? ⟨w.heap.size, 1, none⟩ = some (.slice A1 l1 k1) ∧ ((w4.setCell ⟨w.heap.size + 1, 0, none⟩ (.string s)).setCell ⟨w.heap.size + 1, 1, none⟩ (.slice A L c)).cell? ⟨w.heap.size, 2, none⟩ = some (.slice K1 m1 n1) :=
      ⟨(cell_same (hoth w.heap.size (by omega))).trans z0, (cell_same (hoth w.heap.size (by omega))).trans z1, (cell_same (hoth w.heap.size (by omega))).trans z2⟩
    have hpr2 : PrC (fun _ => True) ((w4.setCell ⟨w.heap.size + 1, 0, none⟩ (.string s)).setCell ⟨w.heap.size + 1, 1, none⟩ (.slice A L c)) p (.string s) (.slice A L c) :=
      (HPP.out.on (B' := fun g => w.heap.size + 2 ≤ g) hb4'.size (fun g _ hg => hb4'.block g hg) (fun g hg _ => hg)).on (by rw [hszr]; exact Nat.le_refl _) (fun g hg _ => hoth g (by omega)) (fun _ _ _ => trivial)
    have HE := Lib.hid (And.intro hBr hpr2)
    refine wpAnyH_ready (rs := [10]) (by kernel_rfl) (by simp) ?_
    refine AllReadyH.cons (o := ⟨_, _, _, _, _, _⟩) rfl (fun KK hKK => ?_) AllReadyH.nil
    go_simp
    refine hKK.out _ _ hcb (fun hHeld2 => ?_)
    clear hKK KK hHeld
    have hHeld := hHeld2
    clear hHeld2
    try simp only [Act.put, List.setIfInBounds_toArray, List.set_cons_zero, List.set_cons_succ]
    (refine wpAnyH_take (i := 11) (oi := ⟨_, _, _, _, _, _⟩) (v := ?_) rfl (by kernel_rfl) (by kernel_rfl) (by kernel_rfl) (fun _ _ _ h => h) (Or.inl ⟨by rfl, ?_⟩) (by assumption) ?_; rotate_left; focus (intro wS hSw; (first | obtain ⟨c1, c2, c3⟩ := hSw | skip); go_simp; (try with_reducible rfl); done); (try simp only [Act.put, List.setIfInBounds_toArray, List.set_cons_zero, List.set_cons_succ]))
    refine wpAnyH_done (by kernel_rfl) ?_ _
    refine NoPanic.normal ?_
    clear hHeld hcb z0 z1 z2 s0 s1 f0 f1 p4 hoth hszr hb4 hb4' hb3 hb3' hbd hbd0 HC x0 x1 x2
    go_wp2_with fail
    refine bodyPost_ret (v := .tuple #[.agg #[.string s, .slice A L c], .int .i64 0]) ?_ rfl ⟨HE.out.1, s, A, L, c, rfl, HE.out.2⟩
    simp [results, Tryz.results8, go_sem, r0, r1]
end Go.Proofs.YthcancakkkjpaaaGreatDoor.nmc
