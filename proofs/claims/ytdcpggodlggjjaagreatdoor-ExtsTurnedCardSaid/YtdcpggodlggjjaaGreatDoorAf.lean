/- Names' Get and GetPrinc: what they tell lies in new memory. The program's orZero, and what it makes. -/
import Derived.Test.YtdcpggodlggjjaaGreatDoorAe
import Derived.Deep.RegionHeld3
namespace Go.Proofs.YtdcpggodlggjjaaGreatDoor.nmc
open Go.RowKit Go.Proofs.YtdcpggodlggjjaaGreatDoor.tlvc Go.Proofs.YtdcpggodlggjjaaGreatDoor.tlvd Go.Proofs.YtdcpggodlggjjaaGreatDoor.ndc Go.Proofs.YtdcpggodlggjjaaGreatDoor.txc Go.Proofs.YtdcpggodlggjjaaGreatDoor.txm Go.Proofs.YtdcpggodlggjjaaGreatDoor.intc Go.Proofs.YtdcpggodlggjjaaGreatDoor.intm
set_option linter.unusedVariables false
set_option linter.unusedSimpArgs false
/-- What Get answers: in new memory. -/
def GetPostF (w : World) (r : Option (List At)) (e : Ending) (w' : World) : Prop :=
 Below w.heap.size w w' ∧ match r with
  | none => e = .returned (.tuple #[.slice none 0 0, .int .i64 91])
  | some l => ∃ A c, e = .returned (.tuple #[.slice A l.length c, .int .i64 0]) ∧ l.length ≤ c ∧ c ≤ maxLen ∧ Lst atE (fun g => w.heap.size ≤ g) w' A l
/-- What GetPrinc answers: in new memory. -/
def GetPPostF (w : World) (r : Option Pr) (e : Ending) (w' : World) : Prop :=
 Below w.heap.size w w' ∧ match r with
  | none => e = .returned (.tuple #[.agg #[.string ⟨#[]⟩, .slice none 0 0], .int .i64 91])
  | some p => ∃ s A l c, e = .returned (.tuple #[.agg #[.string s, .slice A l c], .int .i64 0]) ∧ PrC (fun g => w.heap.size ≤ g) w' p (.string s) (.slice A l c)
theorem GetPostF.any {w : World} {r : Option (List At)} {e : Ending} {w' : World} (h : GetPostF w r e w') : Below w.heap.size w w' ∧ ∃ A l c er, e = .returned (.tuple #[.slice A l c, .int .i64 er]) ∧ (r.getD []).length = l ∧ l ≤ c ∧ c ≤ maxLen ∧ Lst atE (fun g => w.heap.size ≤ g) w' A (r.getD []) := by
 obtain ⟨hb, h⟩ := h
 refine ⟨hb, ?_⟩
 cases r with
 | none => exact ⟨_, _, _, _, h, rfl, Nat.le_refl _, Nat.zero_le _, Lst.nil _ _ _⟩
 | some n =>
  obtain ⟨A, c, e, h1, h2, h3⟩ := h
  exact ⟨A, _, c, _, e, rfl, h1, h2, h3⟩
theorem GetPPostF.any {w : World} {r : Option Pr} {e : Ending} {w' : World} (h : GetPPostF w r e w') : Below w.heap.size w w' ∧ ∃ s A l c er, e = .returned (.tuple #[.agg #[.string s, .slice A l c], .int .i64 er]) ∧ PrC (fun g => w.heap.size ≤ g) w' (r.getD ⟨⟨#[]⟩, []⟩) (.string s) (.slice A l c) := by
 obtain ⟨hb, h⟩ := h
 refine ⟨hb, ?_⟩
 cases r with
 | none => exact ⟨_, _, _, _, _, h, none, 0, rfl, rfl, Nat.le_refl _, Nat.zero_le _, Lst.nil _ _ _, Nat.zero_le _⟩
 | some p =>
  obtain ⟨s, A, l, c, e, h1⟩ := h
  exact ⟨s, A, l, c, _, e, h1⟩
set_option maxRecDepth 100000 in
set_option maxHeartbeats 4000000 in
theorem getF_any (B : Nat → Prop) (n : Nd) (c0 c1 c2 : Value) (w : World) (hn : NdC B w n c0 c1 c2) (hT : Tabs w) :
 Calls Tryz.prog 72 #[.agg #[c0, c1, c2]] w (GetPostF w (getN n)) := by
 obtain ⟨t, A1, l1, k1, K1, m1, n1, rfl, rfl, rfl⟩ := hn.shape
 obtain ⟨W0, hW0⟩ : ∃ x, w.alloc (.cells #[.int .u8 t, .slice A1 l1 k1, .slice K1 m1 n1] 33) = x := ⟨_, rfl⟩
 have hb0 : Below w.heap.size w W0 := by rw [← hW0]; exact below_new _ _
 have q0 : W0.heap[w.heap.size]? = some (.cells #[.int .u8 t, .slice A1 l1 k1, .slice K1 m1 n1] 33) := by rw [← hW0]; exact heap_new_ _ _
 obtain ⟨x0, x1, x2⟩ := box_nd (Below.refl _ W0) q0
 have hpt := partsA_any B n _ _ _ W0 (NdC.below hb0 _ _ _ _ hn)
 rw [show (n.kids.take 8).map toldA = toldN n from rfl] at hpt
 rw [getN_back]
 obtain ⟨l, hl⟩ : ∃ x, toldN n = x := ⟨_, rfl⟩
 rw [hl] at hpt ⊢
 have hap := fun (A : Option Addr) (c : Nat) (W : World) (hW : Below w.heap.size w W) (h1 : l.length ≤ c) (h2 : c ≤ maxLen) (hL : Lst atE (fun g => w.heap.size ≤ g) W A l) => asPutN_any B (fun g => w.heap.size ≤ g) n A l.length c l _ _ _ W (NdC.below hW _ _ _ _ hn) rfl hL h1 h2 (hT.below hW)
 obtain ⟨bk, hbk⟩ : ∃ x, backN l n = x := ⟨_, rfl⟩
 rw [hbk] at hap ⊢
 obtain ⟨R, hR⟩ : ∃ x, (if bk = true then some l else none) = x := ⟨_, rfl⟩
 rw [hR]
 have HR := Lib.hid hR
 have HP := Lib.hid hpt
 have HA := Lib.hid hap
 have HB := Lib.hid (And.intro hb0 q0)
 clear hpt hap hb0 q0 hl hbk hn hT hR
 go_enter Tryz.func72, Tryz.ntmps72
 go_wp2_with fail
 refine HP.out.mono ?_
 rintro e w1 ⟨hb1, A, c, rfl, h1, h2, hL⟩
 have hL := hL.mono (S' := fun g => w.heap.size ≤ g) (fun g hg => Nat.le_trans HB.out.1.size hg)
 have hbw := below_then HB.out.1 hb1 (Nat.le_refl _)
 clear x0 x1 x2
 obtain ⟨x0, x1, x2⟩ := box_nd hb1 HB.out.2
 have hcall := HA.out A c w1 hbw h1 h2 hL
 have HC := Lib.hid hcall
 have HW := Lib.hid (And.intro hbw (And.intro h1 (And.intro h2 hL)))
 obtain ⟨ll, hll⟩ : ∃ x, l.length = x := ⟨_, rfl⟩
 rw [hll] at HC HW ⊢
 have HLL := Lib.hid hll
 clear hcall hbw hb1 h1 h2 hL HP HA HB hll
 go_wp2_with fail
 refine HC.out.mono ?_
 rintro e w2 ⟨hb2, he⟩
 have HF := Lib.hid (below_then HW.out.1 hb2 (Nat.le_refl _))
 have HL := Lib.hid (HW.out.2.2.2.below hb2)
 clear hb2 HC x0 x1 x2
 cases bk
 ·have he : e = .returned (.tuple #[.slice none 0 0, .int .i64 91]) := he
  have hR : none = R := HR.out
  subst hR
  subst he
  go_wp2
  go_ret2
  exact ⟨HF.out, rfl⟩
 ·have he : e = .returned (.tuple #[.slice A ll c, .int .i64 0]) := he
  have hR : some l = R := HR.out
  subst hR
  subst he
  go_wp2
  go_ret2
  exact ⟨HF.out, A, c, by rw [HLL.out]; rfl, by rw [HLL.out]; exact HW.out.2.1, HW.out.2.2.1, HL.out⟩
set_option maxRecDepth 100000 in
set_option maxHeartbeats 8000000 in
theorem getPrincF_any (B : Nat → Prop) (n : Nd) (c0 c1 c2 : Value) (w : World) (hn : NdC B w n c0 c1 c2) (hT : Tabs w) :
 Calls Tryz.prog 63 #[.agg #[c0, c1, c2]] w (GetPPostF w (getP n)) := by
 have mixed : Tryz.prog.follows Departure.mixedOrders = true := by kernel_rfl
 obtain ⟨t, A1, l1, k1, K1, m1, n1, rfl, rfl, rfl⟩ := hn.shape
 obtain ⟨W0, hW0⟩ : ∃ x, (w.alloc (.cells #[.int .u8 t, .slice A1 l1 k1, .slice K1 m1 n1] 33)).alloc (.cells #[.string ⟨#[]⟩, .slice none 0 0] 76) = x := ⟨_, rfl⟩
 have hb0 : Below w.heap.size w W0 := by rw [← hW0]; exact (below_new _ _).alloc (by simp) _
 have hz0 : W0.heap.size = w.heap.size + 2 := by rw [← hW0]; simp
 have p0 : W0.heap[w.heap.size + 1]? = some (.cells #[.string ⟨#[]⟩, .slice none 0 0] 76) := by rw [← hW0]; exact heap_is (by simp)
 have q0 : W0.heap[w.heap.size]? = some (.cells #[.int .u8 t, .slice A1 l1 k1, .slice K1 m1 n1] 33) := by rw [← hW0, heap_old_ _ _ (by simp)]; exact heap_new_ _ _
 obtain ⟨x0, x1, x2⟩ := box_nd (Below.refl _ W0) q0
 have hk1 := kidAt_any B n 1 _ _ _ W0 (NdC.below hb0 _ _ _ _ hn) (by omega)
 have hk0 := fun W (hW : Below W0.heap.size W0 W) => kidAt_any B n 0 _ _ _ W (NdC.below (below_then hb0 hW (Nat.le_refl _)) _ _ _ _ hn) (by omega)
 have htold : toldP n = ⟨strOfNums (kidF n 0).body, ((kidF n 1).kids.take 8).map btxt⟩ := rfl
 have hpa := fun (m : Nd) (c0 c1 c2 : Value) (W : World) (hW : Below W0.heap.size W0 W) (hm : NdC (fun _ => True) W m c0 c1 c2) => partsS_any (fun _ => True) m c0 c1 c2 W hm
 rw [getP_back]
 obtain ⟨p, hp⟩ : ∃ x, toldP n = x := ⟨_, rfl⟩
 rw [hp] at htold ⊢
 have has := fun (d0 d1 : Value) (W : World) (hW : Below W0.heap.size W0 W) (hd : PrC (fun _ => True) W p d0 d1) => asPutP_any B (fun _ => True) n p d0 d1 _ _ _ W (NdC.below (below_then hb0 hW (Nat.le_refl _)) _ _ _ _ hn) hd (hT.below (below_then hb0 hW (Nat.le_refl _)))
 obtain ⟨bk, hbk⟩ : ∃ x, backP p n = x := ⟨_, rfl⟩
 rw [hbk] at has ⊢
 obtain ⟨R, hR⟩ : ∃ x, (if bk = true then some p else none) = x := ⟨_, rfl⟩
 rw [hR]
 have HR := Lib.hid hR
 have HT := Lib.hid htold
 have HK1 := Lib.hid hk1
 have HK0 := Lib.hid hk0
 have HPA := Lib.hid hpa
 have HAS := Lib.hid has
 have HX := Lib.hid (fun W (hW : Below W0.heap.size W0 W) => box_nd hW q0)
 have HB := Lib.hid (And.intro hb0 (And.intro p0 hz0))
 clear hk1 hk0 htold hpa has hb0 p0 q0 hz0 hp hbk hR hn hT
 cases bk
 ·have hR : none = R := HR.out
  subst hR
  go_enter Tryz.func63, Tryz.ntmps63
  go_wp2_with fail
  refine HK1.out.mono ?_
  rintro e w1 ⟨hb1, t2, A2, l2, k2, K2, m2, n2, rfl, hn2⟩
  have hcall := HPA.out _ _ _ _ w1 hb1 hn2
  have HC := Lib.hid hcall
  have HB1 := Lib.hid hb1
  clear hcall hb1 hn2 HK1 HPA x0 x1 x2
  go_wp2_with fail
  refine HC.out.mono ?_
  rintro e w2 ⟨hb2, A, c, rfl, h1, h2, hL⟩
  have hb2 := below_then HB1.out hb2 (Nat.le_refl _)
  obtain ⟨L, hLe⟩ : ∃ x, (List.map btxt (List.take 8 (kidF n 1).kids)).length = x := ⟨_, rfl⟩
  rw [hLe] at h1 ⊢
  have hw1 := HB1.out.size
  have hL := hL.mono (S' := fun g => w.heap.size + 2 ≤ g) (fun g hg => by have := HB.out.2.2; omega)
  have HLS := Lib.hid (And.intro hLe (And.intro h1 (And.intro h2 hL)))
  clear hw1
  have HB2 := Lib.hid hb2
  obtain ⟨x0, x1, x2⟩ := HX.out w2 hb2
  clear hb2 h1 h2 hL hLe HC HB1
  go_wp2_with fail
  try dsimp only
  refine wp_region_noPanic ?_
  refine wp_region_held_drew (S := fun wx : World => wx.cell? ⟨w.heap.size, 0, none⟩ = some (.int .u8 t) ∧ wx.cell? ⟨w.heap.size, 1, none⟩ = some (.slice A1 l1 k1) ∧ wx.cell? ⟨w.heap.size, 2, none⟩ = some (.slice K1 m1 n1)) mixed ⟨x0, x1, x2⟩ (fun hHeld => ?_)
  have hbd := below_drew w2
  obtain ⟨wd, hwd⟩ : ∃ x, w2.drew = x := ⟨_, rfl⟩
  rw [hwd] at hHeld hbd ⊢
  clear hwd
  have hbd0 := below_then HB2.out hbd (Nat.le_refl _)
  (refine wpAnyH_take (i := 0) (oi := ⟨_, _, _, _, _, _⟩) (v := ?_) rfl (by kernel_rfl) (by kernel_rfl) (by kernel_rfl) (fun _ _ _ h => h) (Or.inl ⟨by rfl, ?_⟩) (by assumption) ?_; rotate_left; focus (intro wS hSw; (first | obtain ⟨c1, c2, c3⟩ := hSw | skip); go_simp; (try with_reducible rfl); done); (try simp only [Act.put, List.setIfInBounds_toArray, List.set_cons_zero, List.set_cons_succ]))
  (refine wpAnyH_take (i := 1) (oi := ⟨_, _, _, _, _, _⟩) (v := ?_) rfl (by kernel_rfl) (by kernel_rfl) (by kernel_rfl) (fun _ _ _ h => h) (Or.inl ⟨by rfl, ?_⟩) (by assumption) ?_; rotate_left; focus (intro wS hSw; (first | obtain ⟨c1, c2, c3⟩ := hSw | skip); go_simp; (try with_reducible rfl); done); (try simp only [Act.put, List.setIfInBounds_toArray, List.set_cons_zero, List.set_cons_succ]))
  (refine wpAnyH_take (i := 5) (oi := ⟨_, _, _, _, _, _⟩) (v := ?_) rfl (by kernel_rfl) (by kernel_rfl) (by kernel_rfl) (fun _ _ _ h => h) (Or.inl ⟨by rfl, ?_⟩) (by assumption) ?_; rotate_left; focus (intro wS hSw; (first | obtain ⟨c1, c2, c3⟩ := hSw | skip); go_simp; (try with_reducible rfl); done); (try simp only [Act.put, List.setIfInBounds_toArray, List.set_cons_zero, List.set_cons_succ]))
  refine wpAnyH_ready (rs := [2]) (by kernel_rfl) (by simp) ?_
  refine AllReadyH.cons (o := ⟨_, _, _, _, _, _⟩) rfl (fun KK hKK => ?_) AllReadyH.nil
  go_simp
  refine (HK0.out _ hbd0).mono ?_
  rintro e w3 ⟨hb3, t3, A3, l3, k3, K3, m3, n3, rfl, hn3⟩
  dsimp only
  obtain ⟨g1, g2, g3, g4⟩ := body_size hn3
  have hcv := intc.str_now g3 k3
  have hz : (strOfNums (kidF n 0).body).size ≤ maxLen := by rw [strOfNums_size, g4]; exact Nat.le_trans g1 g2
  have hfd := fld1 t3 A3 l3 k3 K3 m3 n3
  have hb3' := below_then hbd hb3 (Nat.le_refl _)
  have hb3 := below_then hbd0 hb3 (Nat.le_refl _)
  have hpp : PrC (fun g => w.heap.size + 2 ≤ g) w3 p (.string (strOfNums (kidF n 0).body)) (.slice A L c) := by
   rw [HT.out]
   exact ⟨A, c, rfl, by show Value.slice A L c = Value.slice A (List.map btxt (List.take 8 (kidF n 1).kids)).length c; rw [HLS.out.1], by show (List.map btxt (List.take 8 (kidF n 1).kids)).length ≤ c; rw [HLS.out.1]; exact HLS.out.2.1, HLS.out.2.2.1, HLS.out.2.2.2.below hb3', hz⟩
  obtain ⟨s, hs⟩ : ∃ x, strOfNums (kidF n 0).body = x := ⟨_, rfl⟩
  rw [hs] at hcv hpp
  have hcall := HAS.out _ _ w3 hb3 (hpp.on (Nat.le_refl _) (fun _ _ _ => rfl) (fun _ _ _ => trivial))
  have HC := Lib.hid hcall
  have HPP := Lib.hid hpp
  clear hcall hs hz hn3 g1 g2 g3 g4
  refine hKK.out _ _ (HX.out w3 hb3) (fun hHeld2 => ?_)
  clear hKK KK hHeld
  have hHeld := hHeld2
  clear hHeld2
  try simp only [Act.put, List.setIfInBounds_toArray, List.set_cons_zero, List.set_cons_succ]
  (refine wpAnyH_take (i := 3) (oi := ⟨_, _, _, _, _, _⟩) (v := ?_) rfl (by kernel_rfl) (by kernel_rfl) (by kernel_rfl) (fun _ _ _ h => h) (Or.inl ⟨by rfl, ?_⟩) (by assumption) ?_; rotate_left; focus (intro wS hSw; (first | obtain ⟨c1, c2, c3⟩ := hSw | skip); go_simp; (try with_reducible rfl); done); (try simp only [Act.put, List.setIfInBounds_toArray, List.set_cons_zero, List.set_cons_succ]))
  refine wpAnyH_ready (rs := [4]) (by kernel_rfl) (by simp) ?_
  refine AllReadyH.cons (o := ⟨_, _, _, _, _, _⟩) rfl (fun KK hKK => ?_) AllReadyH.nil
  go_simp
  refine hKK.out _ _ (HX.out w3 hb3) (fun hHeld2 => ?_)
  clear hKK KK hHeld
  have hHeld := hHeld2
  clear hHeld2
  try simp only [Act.put, List.setIfInBounds_toArray, List.set_cons_zero, List.set_cons_succ]
  (refine wpAnyH_take (i := 6) (oi := ⟨_, _, _, _, _, _⟩) (v := ?_) rfl (by kernel_rfl) (by kernel_rfl) (by kernel_rfl) (fun _ _ _ h => h) (Or.inl ⟨by rfl, ?_⟩) (by assumption) ?_; rotate_left; focus (intro wS hSw; (first | obtain ⟨c1, c2, c3⟩ := hSw | skip); go_simp; (try with_reducible rfl); done); (try simp only [Act.put, List.setIfInBounds_toArray, List.set_cons_zero, List.set_cons_succ]))
  refine wpAnyH_ready (rs := [7]) (by kernel_rfl) (by simp) ?_
  refine AllReadyH.cons (o := ⟨_, _, _, _, _, _⟩) rfl (fun KK hKK => ?_) AllReadyH.nil
  go_simp
  refine HC.out.mono ?_
  rintro e w4 ⟨hb4, he⟩
  have he : e = .returned (.tuple #[.agg #[.string ⟨#[]⟩, .slice none 0 0], .int .i64 91]) := he
  subst he
  dsimp only
  have hb4' := hb4
  have hb4 := below_then hb3 hb4 (Nat.le_refl _)
  refine hKK.out _ _ (HX.out w4 hb4) (fun hHeld2 => ?_)
  clear hKK KK hHeld
  have hHeld := hHeld2
  clear hHeld2
  try simp only [Act.put, List.setIfInBounds_toArray, List.set_cons_zero, List.set_cons_succ]
  (refine wpAnyH_take (i := 8) (oi := ⟨_, _, _, _, _, _⟩) (v := ?_) rfl (by kernel_rfl) (by kernel_rfl) (by kernel_rfl) (fun _ _ _ h => h) (Or.inl ⟨by rfl, ?_⟩) (by assumption) ?_; rotate_left; focus (intro wS hSw; (first | obtain ⟨c1, c2, c3⟩ := hSw | skip); go_simp; (try with_reducible rfl); done); (try simp only [Act.put, List.setIfInBounds_toArray, List.set_cons_zero, List.set_cons_succ]))
  (refine wpAnyH_take (i := 9) (oi := ⟨_, _, _, _, _, _⟩) (v := ?_) rfl (by kernel_rfl) (by kernel_rfl) (by kernel_rfl) (fun _ _ _ h => h) (Or.inl ⟨by rfl, ?_⟩) (by assumption) ?_; rotate_left; focus (intro wS hSw; (first | obtain ⟨c1, c2, c3⟩ := hSw | skip); go_simp; (try with_reducible rfl); done); (try simp only [Act.put, List.setIfInBounds_toArray, List.set_cons_zero, List.set_cons_succ]))
  have p4 := (hb4.block _ (by have := HB.out.2.2; omega)).trans HB.out.2.1
  obtain ⟨r0, r1, hBr, hoth, hszr⟩ := res2 (y0 := (.string ⟨#[]⟩)) (y1 := (.slice none 0 0)) (Nat.le_succ _) (below_then HB.out.1 hb4 (Nat.le_refl _)) p4
  have f0 := Lib.frozen_of_heap p4 0
  have f1 := Lib.frozen_of_heap p4 1
  have s0 := (Lib.cell_of_heap p4 0).trans rfl
  have s1 := (Lib.cell_of_heap p4 1).trans rfl
  obtain ⟨z0, z1, z2⟩ := HX.out w4 hb4
  have hcb : ((w4.setCell ⟨w.heap.size + 1, 0, none⟩ (.string ⟨#[]⟩)).setCell ⟨w.heap.size + 1, 1, none⟩ (.slice none 0 0)).cell? ⟨w.heap.size, 0, none⟩ = some (.int .u8 t) ∧ ((w4.setCell ⟨w.heap.size + 1, 0, none⟩ (.string ⟨#[]⟩)).setCell ⟨w.heap.size + 1, 1, none⟩ (.slice none 0 0)).cell? ⟨w.heap.size, 1, none⟩ = some (.slice A1 l1 k1) ∧ ((w4.setCell ⟨w.heap.size + 1, 0, none⟩ (.string ⟨#[]⟩)).setCell ⟨w.heap.size + 1, 1, none⟩ (.slice none 0 0)).cell? ⟨w.heap.size, 2, none⟩ = some (.slice K1 m1 n1) :=
   ⟨(cell_same (hoth w.heap.size (by omega))).trans z0, (cell_same (hoth w.heap.size (by omega))).trans z1, (cell_same (hoth w.heap.size (by omega))).trans z2⟩
  have HE := Lib.hid hBr
  refine wpAnyH_ready (rs := [10]) (by kernel_rfl) (by simp) ?_
  refine AllReadyH.cons (o := ⟨_, _, _, _, _, _⟩) rfl (fun KK hKK => ?_) AllReadyH.nil
  go_simp
  refine hKK.out _ _ hcb (fun hHeld2 => ?_)
  clear hKK KK hHeld
  have hHeld := hHeld2
  clear hHeld2
  try simp only [Act.put, List.setIfInBounds_toArray, List.set_cons_zero, List.set_cons_succ]
  (refine wpAnyH_take (i := 11) (oi := ⟨_, _, _, _, _, _⟩) (v := ?_) rfl (by kernel_rfl) (by kernel_rfl) (by kernel_rfl) (fun _ _ _ h => h) (Or.inl ⟨by rfl, ?_⟩) (by assumption) ?_; rotate_left; focus (intro wS hSw; (first | obtain ⟨c1, c2, c3⟩ := hSw | skip); go_simp; (try with_reducible rfl); done); (try simp only [Act.put, List.setIfInBounds_toArray, List.set_cons_zero, List.set_cons_succ]))
  refine wpAnyH_done (by kernel_rfl) ?_ _
  refine NoPanic.normal ?_
  clear hHeld hcb z0 z1 z2 s0 s1 f0 f1 p4 hoth hszr hb4 hb4' hb3 hb3' hbd hbd0 HC x0 x1 x2
  go_wp2_with fail
  refine bodyPost_ret (v := .tuple #[.agg #[.string ⟨#[]⟩, .slice none 0 0], .int .i64 91]) ?_ rfl ⟨HE.out, rfl⟩
  simp [results, Tryz.results63, go_sem, r0, r1]
 ·have hR : some p = R := HR.out
  subst hR
  go_enter Tryz.func63, Tryz.ntmps63
  go_wp2_with fail
  refine HK1.out.mono ?_
  rintro e w1 ⟨hb1, t2, A2, l2, k2, K2, m2, n2, rfl, hn2⟩
  have hcall := HPA.out _ _ _ _ w1 hb1 hn2
  have HC := Lib.hid hcall
  have HB1 := Lib.hid hb1
  clear hcall hb1 hn2 HK1 HPA x0 x1 x2
  go_wp2_with fail
  refine HC.out.mono ?_
  rintro e w2 ⟨hb2, A, c, rfl, h1, h2, hL⟩
  have hb2 := below_then HB1.out hb2 (Nat.le_refl _)
  obtain ⟨L, hLe⟩ : ∃ x, (List.map btxt (List.take 8 (kidF n 1).kids)).length = x := ⟨_, rfl⟩
  rw [hLe] at h1 ⊢
  have hw1 := HB1.out.size
  have hL := hL.mono (S' := fun g => w.heap.size + 2 ≤ g) (fun g hg => by have := HB.out.2.2; omega)
  have HLS := Lib.hid (And.intro hLe (And.intro h1 (And.intro h2 hL)))
  clear hw1
  have HB2 := Lib.hid hb2
  obtain ⟨x0, x1, x2⟩ := HX.out w2 hb2
  clear hb2 h1 h2 hL hLe HC HB1
  go_wp2_with fail
  try dsimp only
  refine wp_region_noPanic ?_
  refine wp_region_held_drew (S := fun wx : World => wx.cell? ⟨w.heap.size, 0, none⟩ = some (.int .u8 t) ∧ wx.cell? ⟨w.heap.size, 1, none⟩ = some (.slice A1 l1 k1) ∧ wx.cell? ⟨w.heap.size, 2, none⟩ = some (.slice K1 m1 n1)) mixed ⟨x0, x1, x2⟩ (fun hHeld => ?_)
  have hbd := below_drew w2
  obtain ⟨wd, hwd⟩ : ∃ x, w2.drew = x := ⟨_, rfl⟩
  rw [hwd] at hHeld hbd ⊢
  clear hwd
  have hbd0 := below_then HB2.out hbd (Nat.le_refl _)
  (refine wpAnyH_take (i := 0) (oi := ⟨_, _, _, _, _, _⟩) (v := ?_) rfl (by kernel_rfl) (by kernel_rfl) (by kernel_rfl) (fun _ _ _ h => h) (Or.inl ⟨by rfl, ?_⟩) (by assumption) ?_; rotate_left; focus (intro wS hSw; (first | obtain ⟨c1, c2, c3⟩ := hSw | skip); go_simp; (try with_reducible rfl); done); (try simp only [Act.put, List.setIfInBounds_toArray, List.set_cons_zero, List.set_cons_succ]))
  (refine wpAnyH_take (i := 1) (oi := ⟨_, _, _, _, _, _⟩) (v := ?_) rfl (by kernel_rfl) (by kernel_rfl) (by kernel_rfl) (fun _ _ _ h => h) (Or.inl ⟨by rfl, ?_⟩) (by assumption) ?_; rotate_left; focus (intro wS hSw; (first | obtain ⟨c1, c2, c3⟩ := hSw | skip); go_simp; (try with_reducible rfl); done); (try simp only [Act.put, List.setIfInBounds_toArray, List.set_cons_zero, List.set_cons_succ]))
  (refine wpAnyH_take (i := 5) (oi := ⟨_, _, _, _, _, _⟩) (v := ?_) rfl (by kernel_rfl) (by kernel_rfl) (by kernel_rfl) (fun _ _ _ h => h) (Or.inl ⟨by rfl, ?_⟩) (by assumption) ?_; rotate_left; focus (intro wS hSw; (first | obtain ⟨c1, c2, c3⟩ := hSw | skip); go_simp; (try with_reducible rfl); done); (try simp only [Act.put, List.setIfInBounds_toArray, List.set_cons_zero, List.set_cons_succ]))
  refine wpAnyH_ready (rs := [2]) (by kernel_rfl) (by simp) ?_
  refine AllReadyH.cons (o := ⟨_, _, _, _, _, _⟩) rfl (fun KK hKK => ?_) AllReadyH.nil
  go_simp
  refine (HK0.out _ hbd0).mono ?_
  rintro e w3 ⟨hb3, t3, A3, l3, k3, K3, m3, n3, rfl, hn3⟩
  dsimp only
  obtain ⟨g1, g2, g3, g4⟩ := body_size hn3
  have hcv := intc.str_now g3 k3
  have hz : (strOfNums (kidF n 0).body).size ≤ maxLen := by rw [strOfNums_size, g4]; exact Nat.le_trans g1 g2
  have hfd := fld1 t3 A3 l3 k3 K3 m3 n3
  have hb3' := below_then hbd hb3 (Nat.le_refl _)
  have hb3 := below_then hbd0 hb3 (Nat.le_refl _)
  have hpp : PrC (fun g => w.heap.size + 2 ≤ g) w3 p (.string (strOfNums (kidF n 0).body)) (.slice A L c) := by
   rw [HT.out]
   exact ⟨A, c, rfl, by show Value.slice A L c = Value.slice A (List.map btxt (List.take 8 (kidF n 1).kids)).length c; rw [HLS.out.1], by show (List.map btxt (List.take 8 (kidF n 1).kids)).length ≤ c; rw [HLS.out.1]; exact HLS.out.2.1, HLS.out.2.2.1, HLS.out.2.2.2.below hb3', hz⟩
  obtain ⟨s, hs⟩ : ∃ x, strOfNums (kidF n 0).body = x := ⟨_, rfl⟩
  rw [hs] at hcv hpp
  have hcall := HAS.out _ _ w3 hb3 (hpp.on (Nat.le_refl _) (fun _ _ _ => rfl) (fun _ _ _ => trivial))
  have HC := Lib.hid hcall
  have HPP := Lib.hid hpp
  clear hcall hs hz hn3 g1 g2 g3 g4
  refine hKK.out _ _ (HX.out w3 hb3) (fun hHeld2 => ?_)
  clear hKK KK hHeld
  have hHeld := hHeld2
  clear hHeld2
  try simp only [Act.put, List.setIfInBounds_toArray, List.set_cons_zero, List.set_cons_succ]
  (refine wpAnyH_take (i := 3) (oi := ⟨_, _, _, _, _, _⟩) (v := ?_) rfl (by kernel_rfl) (by kernel_rfl) (by kernel_rfl) (fun _ _ _ h => h) (Or.inl ⟨by rfl, ?_⟩) (by assumption) ?_; rotate_left; focus (intro wS hSw; (first | obtain ⟨c1, c2, c3⟩ := hSw | skip); go_simp; (try with_reducible rfl); done); (try simp only [Act.put, List.setIfInBounds_toArray, List.set_cons_zero, List.set_cons_succ]))
  refine wpAnyH_ready (rs := [4]) (by kernel_rfl) (by simp) ?_
  refine AllReadyH.cons (o := ⟨_, _, _, _, _, _⟩) rfl (fun KK hKK => ?_) AllReadyH.nil
  go_simp
  refine hKK.out _ _ (HX.out w3 hb3) (fun hHeld2 => ?_)
  clear hKK KK hHeld
  have hHeld := hHeld2
  clear hHeld2
  try simp only [Act.put, List.setIfInBounds_toArray, List.set_cons_zero, List.set_cons_succ]
  (refine wpAnyH_take (i := 6) (oi := ⟨_, _, _, _, _, _⟩) (v := ?_) rfl (by kernel_rfl) (by kernel_rfl) (by kernel_rfl) (fun _ _ _ h => h) (Or.inl ⟨by rfl, ?_⟩) (by assumption) ?_; rotate_left; focus (intro wS hSw; (first | obtain ⟨c1, c2, c3⟩ := hSw | skip); go_simp; (try with_reducible rfl); done); (try simp only [Act.put, List.setIfInBounds_toArray, List.set_cons_zero, List.set_cons_succ]))
  refine wpAnyH_ready (rs := [7]) (by kernel_rfl) (by simp) ?_
  refine AllReadyH.cons (o := ⟨_, _, _, _, _, _⟩) rfl (fun KK hKK => ?_) AllReadyH.nil
  go_simp
  refine HC.out.mono ?_
  rintro e w4 ⟨hb4, he⟩
  have he : e = .returned (.tuple #[.agg #[.string s, .slice A L c], .int .i64 0]) := he
  subst he
  dsimp only
  have hb4' := hb4
  have hb4 := below_then hb3 hb4 (Nat.le_refl _)
  refine hKK.out _ _ (HX.out w4 hb4) (fun hHeld2 => ?_)
  clear hKK KK hHeld
  have hHeld := hHeld2
  clear hHeld2
  try simp only [Act.put, List.setIfInBounds_toArray, List.set_cons_zero, List.set_cons_succ]
  (refine wpAnyH_take (i := 8) (oi := ⟨_, _, _, _, _, _⟩) (v := ?_) rfl (by kernel_rfl) (by kernel_rfl) (by kernel_rfl) (fun _ _ _ h => h) (Or.inl ⟨by rfl, ?_⟩) (by assumption) ?_; rotate_left; focus (intro wS hSw; (first | obtain ⟨c1, c2, c3⟩ := hSw | skip); go_simp; (try with_reducible rfl); done); (try simp only [Act.put, List.setIfInBounds_toArray, List.set_cons_zero, List.set_cons_succ]))
  (refine wpAnyH_take (i := 9) (oi := ⟨_, _, _, _, _, _⟩) (v := ?_) rfl (by kernel_rfl) (by kernel_rfl) (by kernel_rfl) (fun _ _ _ h => h) (Or.inl ⟨by rfl, ?_⟩) (by assumption) ?_; rotate_left; focus (intro wS hSw; (first | obtain ⟨c1, c2, c3⟩ := hSw | skip); go_simp; (try with_reducible rfl); done); (try simp only [Act.put, List.setIfInBounds_toArray, List.set_cons_zero, List.set_cons_succ]))
  have p4 := (hb4.block _ (by have := HB.out.2.2; omega)).trans HB.out.2.1
  obtain ⟨r0, r1, hBr, hoth, hszr⟩ := res2 (y0 := (.string s)) (y1 := (.slice A L c)) (Nat.le_succ _) (below_then HB.out.1 hb4 (Nat.le_refl _)) p4
  have f0 := Lib.frozen_of_heap p4 0
  have f1 := Lib.frozen_of_heap p4 1
  have s0 := (Lib.cell_of_heap p4 0).trans rfl
  have s1 := (Lib.cell_of_heap p4 1).trans rfl
  obtain ⟨z0, z1, z2⟩ := HX.out w4 hb4
  have hcb : ((w4.setCell ⟨w.heap.size + 1, 0, none⟩ (.string s)).setCell ⟨w.heap.size + 1, 1, none⟩ (.slice A L c)).cell? ⟨w.heap.size, 0, none⟩ = some (.int .u8 t) ∧ ((w4.setCell ⟨w.heap.size + 1, 0, none⟩ (.string s)).setCell ⟨w.heap.size + 1, 1, none⟩ (.slice A L c)).cell? ⟨w.heap.size, 1, none⟩ = some (.slice A1 l1 k1) ∧ ((w4.setCell ⟨w.heap.size + 1, 0, none⟩ (.string s)).setCell ⟨w.heap.size + 1, 1, none⟩ (.slice A L c)).cell? ⟨w.heap.size, 2, none⟩ = some (.slice K1 m1 n1) :=
   ⟨(cell_same (hoth w.heap.size (by omega))).trans z0, (cell_same (hoth w.heap.size (by omega))).trans z1, (cell_same (hoth w.heap.size (by omega))).trans z2⟩
  have hpr2 : PrC (fun g => w.heap.size ≤ g) ((w4.setCell ⟨w.heap.size + 1, 0, none⟩ (.string s)).setCell ⟨w.heap.size + 1, 1, none⟩ (.slice A L c)) p (.string s) (.slice A L c) :=
   (HPP.out.on (B' := fun g => w.heap.size + 2 ≤ g) hb4'.size (fun g _ hg => hb4'.block g hg) (fun g hg _ => hg)).on (by rw [hszr]; exact Nat.le_refl _) (fun g hg _ => hoth g (by omega)) (fun g hg _ => by omega)
  have HE := Lib.hid (And.intro hBr hpr2)
  refine wpAnyH_ready (rs := [10]) (by kernel_rfl) (by simp) ?_
  refine AllReadyH.cons (o := ⟨_, _, _, _, _, _⟩) rfl (fun KK hKK => ?_) AllReadyH.nil
  go_simp
  refine hKK.out _ _ hcb (fun hHeld2 => ?_)
  clear hKK KK hHeld
  have hHeld := hHeld2
  clear hHeld2
  try simp only [Act.put, List.setIfInBounds_toArray, List.set_cons_zero, List.set_cons_succ]
  (refine wpAnyH_take (i := 11) (oi := ⟨_, _, _, _, _, _⟩) (v := ?_) rfl (by kernel_rfl) (by kernel_rfl) (by kernel_rfl) (fun _ _ _ h => h) (Or.inl ⟨by rfl, ?_⟩) (by assumption) ?_; rotate_left; focus (intro wS hSw; (first | obtain ⟨c1, c2, c3⟩ := hSw | skip); go_simp; (try with_reducible rfl); done); (try simp only [Act.put, List.setIfInBounds_toArray, List.set_cons_zero, List.set_cons_succ]))
  refine wpAnyH_done (by kernel_rfl) ?_ _
  refine NoPanic.normal ?_
  clear hHeld hcb z0 z1 z2 s0 s1 f0 f1 p4 hoth hszr hb4 hb4' hb3 hb3' hbd hbd0 HC x0 x1 x2
  go_wp2_with fail
  refine bodyPost_ret (v := .tuple #[.agg #[.string s, .slice A L c], .int .i64 0]) ?_ rfl ⟨HE.out.1, s, A, L, c, rfl, HE.out.2⟩
  simp [results, Tryz.results63, go_sem, r0, r1]
set_option maxRecDepth 100000 in
set_option maxHeartbeats 4000000 in
theorem orZP_any (w : World) :
 Calls Tryz.prog 58 #[.func (.func 59) #[] #[]] w fun e w' => ∃ q, e = .returned (.func (.func 117) #[] #[.pointer (some ⟨q, 0, none⟩)]) ∧ w'.heap[q]? = some (.cells #[.func (.func 59) #[] #[]] 98) ∧ w.heap.size ≤ q ∧ Below w.heap.size w w' := by
 have hmf : ∀ (fn : Fn) (first cap : Array Value) (w : World), (Instr.makeFunc fn first cap).run Tryz.prog w = .ok (.func fn first cap) w := fun _ _ _ _ => rfl
 have HE := Lib.hid (And.intro (heap_new_ w (.cells #[.func (.func 59) #[] #[]] 98)) (below_new w (.cells #[.func (.func 59) #[] #[]] 98)))
 go_enter Tryz.func58, Tryz.ntmps58
 go_wp2
 go_ret
 exact ⟨_, rfl, HE.out.1, Nat.le_refl _, HE.out.2⟩
set_option maxRecDepth 100000 in
set_option maxHeartbeats 4000000 in
theorem orZN_any (w : World) :
 Calls Tryz.prog 66 #[.func (.func 67) #[] #[]] w fun e w' => ∃ q, e = .returned (.func (.func 125) #[] #[.pointer (some ⟨q, 0, none⟩)]) ∧ w'.heap[q]? = some (.cells #[.func (.func 67) #[] #[]] 106) ∧ w.heap.size ≤ q ∧ Below w.heap.size w w' := by
 have hmf : ∀ (fn : Fn) (first cap : Array Value) (w : World), (Instr.makeFunc fn first cap).run Tryz.prog w = .ok (.func fn first cap) w := fun _ _ _ _ => rfl
 have HE := Lib.hid (And.intro (heap_new_ w (.cells #[.func (.func 67) #[] #[]] 106)) (below_new w (.cells #[.func (.func 67) #[] #[]] 106)))
 go_enter Tryz.func66, Tryz.ntmps66
 go_wp2
 go_ret
 exact ⟨_, rfl, HE.out.1, Nat.le_refl _, HE.out.2⟩
set_option maxRecDepth 100000 in
set_option maxHeartbeats 4000000 in
theorem orZGP_any (w : World) :
 Calls Tryz.prog 62 #[.func (.func 63) #[] #[]] w fun e w' => ∃ q, e = .returned (.func (.func 120) #[] #[.pointer (some ⟨q, 0, none⟩)]) ∧ w'.heap[q]? = some (.cells #[.func (.func 63) #[] #[]] 102) ∧ w.heap.size ≤ q ∧ Below w.heap.size w w' := by
 have hmf : ∀ (fn : Fn) (first cap : Array Value) (w : World), (Instr.makeFunc fn first cap).run Tryz.prog w = .ok (.func fn first cap) w := fun _ _ _ _ => rfl
 have HE := Lib.hid (And.intro (heap_new_ w (.cells #[.func (.func 63) #[] #[]] 102)) (below_new w (.cells #[.func (.func 63) #[] #[]] 102)))
 go_enter Tryz.func62, Tryz.ntmps62
 go_wp2
 go_ret
 exact ⟨_, rfl, HE.out.1, Nat.le_refl _, HE.out.2⟩
set_option maxRecDepth 100000 in
set_option maxHeartbeats 4000000 in
theorem orZGN_any (w : World) :
 Calls Tryz.prog 71 #[.func (.func 72) #[] #[]] w fun e w' => ∃ q, e = .returned (.func (.func 132) #[] #[.pointer (some ⟨q, 0, none⟩)]) ∧ w'.heap[q]? = some (.cells #[.func (.func 72) #[] #[]] 111) ∧ w.heap.size ≤ q ∧ Below w.heap.size w w' := by
 have hmf : ∀ (fn : Fn) (first cap : Array Value) (w : World), (Instr.makeFunc fn first cap).run Tryz.prog w = .ok (.func fn first cap) w := fun _ _ _ _ => rfl
 have HE := Lib.hid (And.intro (heap_new_ w (.cells #[.func (.func 72) #[] #[]] 111)) (below_new w (.cells #[.func (.func 72) #[] #[]] 111)))
 go_enter Tryz.func71, Tryz.ntmps71
 go_wp2
 go_ret
 exact ⟨_, rfl, HE.out.1, Nat.le_refl _, HE.out.2⟩
set_option maxRecDepth 100000 in
set_option maxHeartbeats 4000000 in
theorem princZ_any (S : Nat → Prop) (p : Pr) (c0 c1 : Value) (q : Nat) (w : World) (hp : PrC S w p c0 c1) (hq : w.heap[q]? = some (.cells #[.func (.func 59) #[] #[]] 98)) (hT : Tabs w) :
 Calls Tryz.prog 117 #[.agg #[c0, c1], .pointer (some ⟨q, 0, none⟩)] w (NVal (fun g => w.heap.size ≤ g) w (princZ p)) := by
 have hent := enters_of Tryz.func59 (by kernel_rfl) rfl
 have hpc := hp
 obtain ⟨A, cap, rfl, rfl, _⟩ := hp
 obtain ⟨len, hlen⟩ : ∃ x, p.names.length = x := ⟨_, rfl⟩
 obtain ⟨s, hs0⟩ : ∃ x, p.realm = x := ⟨_, rfl⟩
 rw [hlen, hs0] at hpc ⊢
 obtain ⟨W0, hW0⟩ : ∃ x, (w.alloc (.cells #[.string s, .slice A len cap] 76)).alloc (.cells #[.int .u8 0, .slice none 0 0, .slice none 0 0] 33) = x := ⟨_, rfl⟩
 have hb0 : Below w.heap.size w W0 := by rw [← hW0]; exact (below_new _ _).alloc (by simp) _
 have hz0 : W0.heap.size = w.heap.size + 2 := by rw [← hW0]; simp
 have p0 : W0.heap[w.heap.size + 1]? = some (.cells #[.int .u8 0, .slice none 0 0, .slice none 0 0] 33) := by rw [← hW0]; exact heap_is (by simp)
 have q0 : W0.heap[w.heap.size]? = some (.cells #[.string s, .slice A len cap] 76) := by rw [← hW0, heap_old_ _ _ (by simp)]; exact heap_new_ _ _
 have b0 : W0.cell? ⟨w.heap.size, 0, none⟩ = some (.string s) := (Lib.cell_of_heap q0 _).trans rfl
 have b1 : W0.cell? ⟨w.heap.size, 1, none⟩ = some (.slice A len cap) := (Lib.cell_of_heap q0 _).trans rfl
 have hput := putPrinc_any S p _ _ W0 (hpc.below hb0) (hT.below hb0)
 have hZ : princZ p = (princF p).getD zn := by unfold princZ; rw [princF_of]; split <;> rfl
 obtain ⟨r, hr⟩ : ∃ x, princF p = x := ⟨_, rfl⟩
 rw [hr] at hput hZ
 rw [hZ]
 have d0 : W0.cell? ⟨q, 0, none⟩ = some (.func (.func 59) #[] #[]) := (Lib.cell_of_heap ((hb0.block q (Array.getElem?_eq_some_iff.1 hq).1).trans hq) 0).trans rfl
 have HC := Lib.hid hput
 have HB := Lib.hid (And.intro hb0 (And.intro p0 hz0))
 clear hput hb0 p0 hz0 hr hZ hq hT hlen hs0 hpc
 go_enter Tryz.func117, Tryz.ntmps117
 go_wp2_with fail
 refine HC.out.mono ?_
 intro e w1 hpost
 obtain ⟨hb1, t, A5, la5, ca5, K5, lk5, ck5, er, rfl, _, hn⟩ := hpost.anyS
 have hz := HB.out.2.2
 obtain ⟨W2, hW2⟩ : ∃ x, w1.alloc (.cells #[.int .u8 t, .slice A5 la5 ca5, .slice K5 lk5 ck5] 33) = x := ⟨_, rfl⟩
 have hb12 : Below w1.heap.size w1 W2 := by rw [← hW2]; exact below_new _ _
 have q2 : W2.heap[w1.heap.size]? = some (.cells #[.int .u8 t, .slice A5 la5 ca5, .slice K5 lk5 ck5] 33) := by rw [← hW2]; exact heap_new_ _ _
 have hb2 := below_then hb1 hb12 (Nat.le_refl _)
 have p2 := (hb2.block (w.heap.size + 1) (by omega)).trans HB.out.2.1
 have hB2 := below_then HB.out.1 hb2 (Nat.le_refl _)
 obtain ⟨y0, y1, y2⟩ := box_nd (Below.refl _ W2) q2
 obtain ⟨r0, r1, r2, hB⟩ := res3 (b := w.heap.size + 1) (y0 := .int .u8 t) (y1 := .slice A5 la5 ca5) (y2 := .slice K5 lk5 ck5) (by omega) hB2 p2
 have hn2 := res3_nd (b := w.heap.size + 1) (y0 := .int .u8 t) (y1 := .slice A5 la5 ca5) (y2 := .slice K5 lk5 ck5) (fun g hg => by omega) (NdC.below hb12 _ _ _ _ hn)
 have f0 := Lib.frozen_of_heap p2 0
 have f1 := Lib.frozen_of_heap p2 1
 have f2 := Lib.frozen_of_heap p2 2
 have s0 := (Lib.cell_of_heap p2 0).trans rfl
 have s1 := (Lib.cell_of_heap p2 1).trans rfl
 have s2 := (Lib.cell_of_heap p2 2).trans rfl
 have HE := Lib.hid (And.intro hB (NdC.mono (B' := fun g => w.heap.size ≤ g) (fun g hg => by omega) _ _ _ _ hn2))
 clear hB hn hn2 hb1 hb12 hb2 hB2 q2 p2 HC HB hz hpost d0 b0 b1
 go_wp2_with fail
 refine bodyPost_ret (v := .agg #[.int .u8 t, .slice A5 la5 ca5, .slice K5 lk5 ck5]) ?_ rfl ⟨HE.out.1, _, _, _, _, _, _, _, rfl, HE.out.2⟩
 simp [results, Tryz.results117, go_sem, r0, r1, r2]
set_option maxRecDepth 100000 in
set_option maxHeartbeats 4000000 in
theorem nameZ_any (S : Nat → Prop) (l : List At) (A : Option Addr) (len cap : Nat) (q : Nat) (w : World) (hl : l.length = len) (hL : Lst atE S w A l) (hc : len ≤ cap) (hm : cap ≤ maxLen) (hq : w.heap[q]? = some (.cells #[.func (.func 67) #[] #[]] 106)) (hT : Tabs w) :
 Calls Tryz.prog 125 #[.slice A len cap, .pointer (some ⟨q, 0, none⟩)] w (NVal (fun g => w.heap.size ≤ g) w (nameZ l)) := by
 have hent := enters_of Tryz.func67 (by kernel_rfl) rfl
 obtain ⟨W0, hW0⟩ : ∃ x, w.alloc (.cells #[.int .u8 0, .slice none 0 0, .slice none 0 0] 33) = x := ⟨_, rfl⟩
 have hb0 : Below w.heap.size w W0 := by rw [← hW0]; exact below_new _ _
 have hz0 : W0.heap.size = w.heap.size + 1 := by rw [← hW0]; simp
 have p0 : W0.heap[w.heap.size]? = some (.cells #[.int .u8 0, .slice none 0 0, .slice none 0 0] 33) := by rw [← hW0]; exact heap_new_ _ _
 have hput := put_any S A len cap l W0 hl (hL.below hb0) hc hm (hT.below hb0)
 have hZ : nameZ l = (nameF l).getD zn := by unfold nameZ; rw [nameF_of]; split <;> rfl
 obtain ⟨r, hr⟩ : ∃ x, nameF l = x := ⟨_, rfl⟩
 rw [hr] at hput hZ
 rw [hZ]
 have d0 : W0.cell? ⟨q, 0, none⟩ = some (.func (.func 67) #[] #[]) := (Lib.cell_of_heap ((hb0.block q (Array.getElem?_eq_some_iff.1 hq).1).trans hq) 0).trans rfl
 have HC := Lib.hid hput
 have HB := Lib.hid (And.intro hb0 (And.intro p0 hz0))
 clear hput hb0 p0 hz0 hr hZ hq hT hl hL hc hm
 go_enter Tryz.func125, Tryz.ntmps125
 go_wp2_with fail
 refine HC.out.mono ?_
 intro e w1 hpost
 obtain ⟨hb1, t, A5, la5, ca5, K5, lk5, ck5, er, rfl, _, hn⟩ := hpost.anyS
 have hz := HB.out.2.2
 obtain ⟨W2, hW2⟩ : ∃ x, w1.alloc (.cells #[.int .u8 t, .slice A5 la5 ca5, .slice K5 lk5 ck5] 33) = x := ⟨_, rfl⟩
 have hb12 : Below w1.heap.size w1 W2 := by rw [← hW2]; exact below_new _ _
 have q2 : W2.heap[w1.heap.size]? = some (.cells #[.int .u8 t, .slice A5 la5 ca5, .slice K5 lk5 ck5] 33) := by rw [← hW2]; exact heap_new_ _ _
 have hb2 := below_then hb1 hb12 (Nat.le_refl _)
 have p2 := (hb2.block (w.heap.size) (by omega)).trans HB.out.2.1
 have hB2 := below_then HB.out.1 hb2 (Nat.le_refl _)
 obtain ⟨y0, y1, y2⟩ := box_nd (Below.refl _ W2) q2
 obtain ⟨r0, r1, r2, hB⟩ := res3 (b := w.heap.size) (y0 := .int .u8 t) (y1 := .slice A5 la5 ca5) (y2 := .slice K5 lk5 ck5) (Nat.le_refl _) hB2 p2
 have hn2 := res3_nd (b := w.heap.size) (y0 := .int .u8 t) (y1 := .slice A5 la5 ca5) (y2 := .slice K5 lk5 ck5) (fun g hg => by omega) (NdC.below hb12 _ _ _ _ hn)
 have f0 := Lib.frozen_of_heap p2 0
 have f1 := Lib.frozen_of_heap p2 1
 have f2 := Lib.frozen_of_heap p2 2
 have s0 := (Lib.cell_of_heap p2 0).trans rfl
 have s1 := (Lib.cell_of_heap p2 1).trans rfl
 have s2 := (Lib.cell_of_heap p2 2).trans rfl
 have HE := Lib.hid (And.intro hB (NdC.mono (B' := fun g => w.heap.size ≤ g) (fun g hg => by omega) _ _ _ _ hn2))
 clear hB hn hn2 hb1 hb12 hb2 hB2 q2 p2 HC HB hz hpost d0
 go_wp2_with fail
 refine bodyPost_ret (v := .agg #[.int .u8 t, .slice A5 la5 ca5, .slice K5 lk5 ck5]) ?_ rfl ⟨HE.out.1, _, _, _, _, _, _, _, rfl, HE.out.2⟩
 simp [results, Tryz.results125, go_sem, r0, r1, r2]
set_option maxRecDepth 100000 in
set_option maxHeartbeats 4000000 in
theorem getNZ_any (B : Nat → Prop) (n : Nd) (c0 c1 c2 : Value) (q : Nat) (w : World) (hn : NdC B w n c0 c1 c2) (hq : w.heap[q]? = some (.cells #[.func (.func 72) #[] #[]] 111)) (hT : Tabs w) :
 Calls Tryz.prog 132 #[.agg #[c0, c1, c2], .pointer (some ⟨q, 0, none⟩)] w (LVal atE (fun g => w.heap.size ≤ g) w (getNZ n)) := by
 have hent := enters_of Tryz.func72 (by kernel_rfl) rfl
 obtain ⟨t, A1, l1, k1, K1, m1, n1, rfl, rfl, rfl⟩ := hn.shape
 obtain ⟨W0, hW0⟩ : ∃ x, w.alloc (.cells #[.int .u8 t, .slice A1 l1 k1, .slice K1 m1 n1] 33) = x := ⟨_, rfl⟩
 have hb0 : Below w.heap.size w W0 := by rw [← hW0]; exact below_new _ _
 have q0 : W0.heap[w.heap.size]? = some (.cells #[.int .u8 t, .slice A1 l1 k1, .slice K1 m1 n1] 33) := by rw [← hW0]; exact heap_new_ _ _
 obtain ⟨x0, x1, x2⟩ := box_nd (Below.refl _ W0) q0
 have hget := getF_any B n _ _ _ W0 (NdC.below hb0 _ _ _ _ hn) (hT.below hb0)
 have d0 : W0.cell? ⟨q, 0, none⟩ = some (.func (.func 72) #[] #[]) := (Lib.cell_of_heap ((hb0.block q (Array.getElem?_eq_some_iff.1 hq).1).trans hq) 0).trans rfl
 have HC := Lib.hid hget
 have HB := Lib.hid hb0
 clear hget hb0 q0 hq hT hn
 go_enter Tryz.func132, Tryz.ntmps132
 go_wp2_with fail
 refine HC.out.mono ?_
 intro e w1 hpost
 obtain ⟨hb1, A5, l5, c5, er, rfl, hl5, h51, h52, hL5⟩ := hpost.any
 have HE := Lib.hid (And.intro (below_then HB.out hb1 (Nat.le_refl _)) (hL5.mono (S' := fun g => w.heap.size ≤ g) (fun g hg => Nat.le_trans HB.out.size hg)))
 clear hb1 hL5 HC HB hpost d0 x0 x1 x2
 go_wp2
 go_ret
 exact ⟨HE.out.1, A5, c5, by show Ending.returned (.slice A5 l5 c5) = .returned (.slice A5 ((getN n).getD []).length c5); rw [hl5], by show ((getN n).getD []).length ≤ c5; rw [hl5]; exact h51, h52, HE.out.2⟩
set_option maxRecDepth 100000 in
set_option maxHeartbeats 4000000 in
theorem getPZ_any (B : Nat → Prop) (n : Nd) (c0 c1 c2 : Value) (q : Nat) (w : World) (hn : NdC B w n c0 c1 c2) (hq : w.heap[q]? = some (.cells #[.func (.func 63) #[] #[]] 102)) (hT : Tabs w) :
 Calls Tryz.prog 120 #[.agg #[c0, c1, c2], .pointer (some ⟨q, 0, none⟩)] w (PVal (fun g => w.heap.size ≤ g) w (getPZ n)) := by
 have hent := enters_of Tryz.func63 (by kernel_rfl) rfl
 obtain ⟨t, A1, l1, k1, K1, m1, n1, rfl, rfl, rfl⟩ := hn.shape
 obtain ⟨W0, hW0⟩ : ∃ x, (w.alloc (.cells #[.int .u8 t, .slice A1 l1 k1, .slice K1 m1 n1] 33)).alloc (.cells #[.string ⟨#[]⟩, .slice none 0 0] 76) = x := ⟨_, rfl⟩
 have hb0 : Below w.heap.size w W0 := by rw [← hW0]; exact (below_new _ _).alloc (by simp) _
 have hz0 : W0.heap.size = w.heap.size + 2 := by rw [← hW0]; simp
 have p0 : W0.heap[w.heap.size + 1]? = some (.cells #[.string ⟨#[]⟩, .slice none 0 0] 76) := by rw [← hW0]; exact heap_is (by simp)
 have q0 : W0.heap[w.heap.size]? = some (.cells #[.int .u8 t, .slice A1 l1 k1, .slice K1 m1 n1] 33) := by rw [← hW0, heap_old_ _ _ (by simp)]; exact heap_new_ _ _
 obtain ⟨x0, x1, x2⟩ := box_nd (Below.refl _ W0) q0
 have HP := Lib.hid (And.intro p0 hz0)
 clear p0 hz0
 have hget := getPrincF_any B n _ _ _ W0 (NdC.below hb0 _ _ _ _ hn) (hT.below hb0)
 have d0 : W0.cell? ⟨q, 0, none⟩ = some (.func (.func 63) #[] #[]) := (Lib.cell_of_heap ((hb0.block q (Array.getElem?_eq_some_iff.1 hq).1).trans hq) 0).trans rfl
 have HC := Lib.hid hget
 have HB := Lib.hid hb0
 clear hget hb0 q0 hq hT hn
 go_enter Tryz.func120, Tryz.ntmps120
 go_wp2_with fail
 refine HC.out.mono ?_
 intro e w1 hpost
 obtain ⟨hb1, s5, A5, l5, c5, er, rfl, hp5⟩ := hpost.any
 have hz := HP.out.2
 obtain ⟨W2, hW2⟩ : ∃ x, w1.alloc (.cells #[.string s5, .slice A5 l5 c5] 76) = x := ⟨_, rfl⟩
 have hb12 : Below w1.heap.size w1 W2 := by rw [← hW2]; exact below_new _ _
 have q2 : W2.heap[w1.heap.size]? = some (.cells #[.string s5, .slice A5 l5 c5] 76) := by rw [← hW2]; exact heap_new_ _ _
 have hb2 := below_then hb1 hb12 (Nat.le_refl _)
 have p2 := (hb2.block (w.heap.size + 1) (by omega)).trans HP.out.1
 have hB2 := below_then HB.out hb2 (Nat.le_refl _)
 have y0 := (Lib.cell_of_heap q2 0).trans rfl
 have y1 := (Lib.cell_of_heap q2 1).trans rfl
 obtain ⟨r0, r1, hB, hoth, hsz⟩ := res2 (b := w.heap.size + 1) (y0 := .string s5) (y1 := .slice A5 l5 c5) (by omega) hB2 p2
 have hp6 : PrC (fun g => w.heap.size ≤ g) ((W2.setCell ⟨w.heap.size + 1, 0, none⟩ (.string s5)).setCell ⟨w.heap.size + 1, 1, none⟩ (.slice A5 l5 c5)) ((getP n).getD ⟨⟨#[]⟩, []⟩) (.string s5) (.slice A5 l5 c5) :=
  ((hp5.on (B' := fun g => w.heap.size + 2 ≤ g) hb12.size (fun g _ hg => hb12.block g hg) (fun g hg _ => by omega))).on (by rw [hsz]; exact Nat.le_refl _) (fun g hg _ => hoth g (by omega)) (fun g hg _ => by omega)
 obtain ⟨A6, c6, e6, e7, h61, h62, h63, h64⟩ := hp6
 simp only [Value.slice.injEq] at e7
 obtain ⟨rfl, hl6, rfl⟩ := e7
 have f0 := Lib.frozen_of_heap p2 0
 have f1 := Lib.frozen_of_heap p2 1
 have s0 := (Lib.cell_of_heap p2 0).trans rfl
 have s1 := (Lib.cell_of_heap p2 1).trans rfl
 have HE := Lib.hid (And.intro hB (And.intro h61 (And.intro h62 (And.intro h63 (And.intro h64 (And.intro e6 hl6))))))
 clear hB hoth hsz hp5 h61 h62 h63 h64 e6 hl6 hb1 hb12 hb2 hB2 q2 p2 HC HB HP hz hpost d0 x0 x1 x2
 go_wp2_with fail
 refine bodyPost_ret (v := .agg #[.string s5, .slice A5 l5 c5]) ?_ rfl ⟨HE.out.1, A5, c5, ?_, HE.out.2.1, HE.out.2.2.1, HE.out.2.2.2.1, HE.out.2.2.2.2.1⟩
 ·simp [results, Tryz.results120, go_sem, r0, r1]
 ·show Ending.returned (.agg #[.string s5, .slice A5 l5 c5]) = .returned (.agg #[.string ((getP n).getD ⟨⟨#[]⟩, []⟩).realm, .slice A5 ((getP n).getD ⟨⟨#[]⟩, []⟩).names.length c5])
  rw [← HE.out.2.2.2.2.2.1, HE.out.2.2.2.2.2.2]
end Go.Proofs.YtdcpggodlggjjaaGreatDoor.nmc
