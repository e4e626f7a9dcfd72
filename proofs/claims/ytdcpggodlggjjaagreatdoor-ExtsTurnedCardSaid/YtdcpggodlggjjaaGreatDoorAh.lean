/- The program's extension: the node of one. -/
import Derived.Test.YtdcpggodlggjjaaGreatDoorAg
import Derived.Deep.RegionHeld3
namespace Go.Proofs.YtdcpggodlggjjaaGreatDoor.nmc
open Go.RowKit Go.Proofs.YtdcpggodlggjjaaGreatDoor.tlvc Go.Proofs.YtdcpggodlggjjaaGreatDoor.tlvd Go.Proofs.YtdcpggodlggjjaaGreatDoor.ndc Go.Proofs.YtdcpggodlggjjaaGreatDoor.txc Go.Proofs.YtdcpggodlggjjaaGreatDoor.txm Go.Proofs.YtdcpggodlggjjaaGreatDoor.intc Go.Proofs.YtdcpggodlggjjaaGreatDoor.intm
set_option linter.unusedVariables false
set_option linter.unusedSimpArgs false
theorem lst_all {α : Type} {E : El α} {S : Nat → Prop} {W : World} {g : Nat} {arr : Array Value} {cs : List Value} {xs : List α} {T : TypeId} {fr : Nat × Nat} (hp : W.heap[g]? = some (.cells arr T fr)) (hc : arr.toList = cs) (hg : S g) (h : All E S W xs cs) : Lst E S W (some ⟨g, 0, none⟩) xs := fun _ => ⟨g, 0, rfl, (Array.getElem?_eq_some_iff.1 hp).1, hg, fun i hi => by
 obtain ⟨a, h1, h2⟩ := h.at i hi
 refine ⟨a, fun j u hu => ?_, h1⟩
 rw [Nat.zero_add, Lib.cell_of_heap hp, ← Array.getElem?_toList, hc]
 exact h2 j u hu⟩
theorem all_two {α : Type} {E : El α} {S : Nat → Prop} {W : World} {x y : List α} {a b : Value} (h1 : LsC E S W x a) (h2 : LsC E S W y b) : All (lsE E) S W [x, y] [a, b] := ⟨[a], [b], rfl, ⟨a, rfl, h1⟩, [b], [], rfl, ⟨b, rfl, h2⟩, rfl⟩
theorem all_three {α : Type} {E : El α} {S : Nat → Prop} {W : World} {x y z : List α} {a b c : Value} (h1 : LsC E S W x a) (h2 : LsC E S W y b) (h3 : LsC E S W z c) : All (lsE E) S W [x, y, z] [a, b, c] := ⟨[a], [b, c], rfl, ⟨a, rfl, h1⟩, all_two h2 h3⟩
theorem all_one {α : Type} {E : El α} {S : Nat → Prop} {W : World} {x : List α} {a : Value} (h1 : LsC E S W x a) : All (lsE E) S W [x] [a] := ⟨[a], [], rfl, ⟨a, rfl, h1⟩, rfl⟩
theorem InC.ins {S : Nat → Prop} {w : World} {xs : List Int} {A : Option Addr} {l c : Nat} (h : InC S w xs (.slice A l c)) : Ins w A l xs ∧ l ≤ c ∧ c ≤ maxLen ∧ (0 < l → ∀ g off sp, A = some ⟨g, off, sp⟩ → S g) := by
 obtain ⟨A', l', c', e, h1, h2, h3, h4⟩ := h
 simp only [Value.slice.injEq] at e
 obtain ⟨rfl, rfl, rfl⟩ := e
 exact ⟨h3, h1, h2, h4⟩
theorem ByC.bys {S : Nat → Prop} {w : World} {xs : List Int} {A : Option Addr} {l c : Nat} (h : ByC S w xs (.slice A l c)) : Bys w A l xs ∧ l ≤ c ∧ c ≤ maxLen ∧ (0 < l → ∀ g off sp, A = some ⟨g, off, sp⟩ → S g) := by
 obtain ⟨A', l', c', e, h1, h2, h3, h4⟩ := h
 simp only [Value.slice.injEq] at e
 obtain ⟨rfl, rfl, rfl⟩ := e
 exact ⟨h3, h1, h2, h4⟩
theorem OdC.shape {S : Nat → Prop} {w : World} {o : Od} {c0 c1 c2 : Value} (h : OdC S w o c0 c1 c2) : ∃ A l k B m n, c0 = .slice A l k ∧ c1 = .bool o.crit ∧ c2 = .slice B m n := by
 obtain ⟨⟨A, l, k, rfl, _⟩, rfl, B, m, n, rfl, _⟩ := h
 exact ⟨A, l, k, B, m, n, rfl, rfl, rfl⟩
set_option maxRecDepth 100000 in
set_option maxHeartbeats 8000000 in
theorem extension_any (B : Nat → Prop) (o : Od) (c0 c1 c2 : Value) (w : World) (ho : OdC B w o c0 c1 c2) (hlen : o.body.length ≤ 140737488351232) :
 Calls Tryz.prog 20 #[.agg #[c0, c1, c2]] w (NVal (fun g => w.heap.size ≤ g) w (extF o)) := by
 have mixed : Tryz.prog.follows Departure.mixedOrders = true := by kernel_rfl
 obtain ⟨A1, l1, k1, A2, l2, k2, rfl, rfl, rfl⟩ := ho.shape
 obtain ⟨b1, hb1⟩ : ∃ x, o.crit = x := ⟨_, rfl⟩
 rw [hb1] at ho ⊢
 obtain ⟨W0, hW0⟩ : ∃ x, (w.alloc (.cells #[.slice A1 l1 k1, .bool b1, .slice A2 l2 k2] 60)).alloc (.cells #[.int .u8 0, .slice none 0 0, .slice none 0 0] 33) = x := ⟨_, rfl⟩
 have hb0 : Below w.heap.size w W0 := by rw [← hW0]; exact (below_new _ _).alloc (by simp) _
 have hz0 : W0.heap.size = w.heap.size + 2 := by rw [← hW0]; simp
 have p0 : W0.heap[w.heap.size + 1]? = some (.cells #[.int .u8 0, .slice none 0 0, .slice none 0 0] 33) := by rw [← hW0]; exact heap_is (by simp)
 have q0 : W0.heap[w.heap.size]? = some (.cells #[.slice A1 l1 k1, .bool b1, .slice A2 l2 k2] 60) := by rw [← hW0, heap_old_ _ _ (by simp)]; exact heap_new_ _ _
 obtain ⟨x0, x1, x2⟩ := box_nd (Below.refl _ W0) q0
 obtain ⟨i1, i2, i3, _⟩ := InC.ins (ho.1)
 obtain ⟨j1, j2, j3, _⟩ := ByC.bys (ho.2.2)
 have hfit := j1.1
 have HC := Lib.hid (bclone_any A2 l2 k2 o.body W0 (j1.below hb0) j2 j3 (by omega))
 have HO := Lib.hid (fun W (hW : Below W0.heap.size W0 W) => objectNode_any A1 l1 k1 o.oid W (i1.below (below_then hb0 hW (Nat.le_refl _))) i2 i3)
 have HX := Lib.hid (fun W (hW : Below W0.heap.size W0 W) => box_nd hW q0)
 have HB := Lib.hid (And.intro hb0 (And.intro p0 (And.intro hz0 (And.intro j1.2.1 hfit))))
 have hext : extF o = .mk 48 [] ([onlyL true (oidN o.oid), onlyL b1 truthN, onlyL true (.mk 4 o.body [])].flatten) := by
  unfold extF
  rw [hb1]
  simp [List.flatten]
 rw [hext]
 have HL := Lib.hid (show o.body.length = l2 from hfit)
 clear hb0 p0 hz0 q0 i1 i2 i3 j1 j2 j3 ho hlen hb1 hfit hext
 go_enter Tryz.func20, Tryz.ntmps20
 go_wp2_with fail
 refine HC.out.mono ?_
 rintro e w1 ⟨A3, c3, rfl, hby, hc3, hb1, hfar⟩
 obtain ⟨W2, hW2⟩ : ∃ x, w1.alloc (.cells #[.int .u8 4, .slice A3 l2 c3, .slice none 0 0] 33) = x := ⟨_, rfl⟩
 have hb12 : Below w1.heap.size w1 W2 := by rw [← hW2]; exact below_new _ _
 have q2 : W2.heap[w1.heap.size]? = some (.cells #[.int .u8 4, .slice A3 l2 c3, .slice none 0 0] 33) := by rw [← hW2]; exact heap_new_ _ _
 have hb2 := below_then hb1 hb12 (Nat.le_refl _)
 have hz := HB.out.2.2.1
 have hz1 := hb1.size
 have hleaf : NdC (fun g => w.heap.size + 2 ≤ g) W2 (.mk 4 o.body []) (.int .u8 4) (.slice A3 l2 c3) (.slice none 0 0) := ndC_leaf (by omega) hc3.1 hc3.2 (hby.below hb12) (fun _ g off sp e => by have := hfar g off sp e; omega)
 have HN := Lib.hid hleaf
 have HY := Lib.hid (fun W (hW : Below W2.heap.size W2 W) => box_nd hW q2)
 have HB2 := Lib.hid (And.intro hb2 (And.intro (show w.heap.size + 2 ≤ w1.heap.size by omega) (show w.heap.size + 2 ≤ W2.heap.size by have := hb12.size; omega)))
 obtain ⟨y0, y1, y2⟩ := HY.out W2 (Below.refl _ _)
 clear x0 x1 x2
 obtain ⟨x0, x1, x2⟩ := HX.out W2 hb2
 have hS2 : ∀ g, W2.heap.size ≤ g → w.heap.size + 2 ≤ g := fun g hg => Nat.le_trans HB2.out.2.2 hg
 have HS2 := Lib.hid hS2
 clear hby hc3 hb1 hfar hb12 q2 hb2 hleaf hz hz1 HC hS2
 have HW2 := Lib.hid hW2
 clear hW2
 go_wp2_with fail
 try dsimp only
 rw [HW2.out]
 try dsimp only
 refine wp_region_noPanic ?_
 refine wp_region_held_drew (S := fun wx : World => wx.cell? ⟨w.heap.size, 0, none⟩ = some (.slice A1 l1 k1) ∧ wx.cell? ⟨w.heap.size, 1, none⟩ = some (.bool b1) ∧ wx.cell? ⟨w1.heap.size, 0, none⟩ = some (.int .u8 4) ∧ wx.cell? ⟨w1.heap.size, 1, none⟩ = some (.slice A3 l2 c3) ∧ wx.cell? ⟨w1.heap.size, 2, none⟩ = some (.slice none 0 0)) mixed ⟨x0, x1, y0, y1, y2⟩ (fun hHeld => ?_)
 have hbd := below_drew W2
 obtain ⟨wd, hwd⟩ : ∃ x, W2.drew = x := ⟨_, rfl⟩
 rw [hwd] at hHeld hbd ⊢
 clear hwd
 (refine wpAnyH_take (i := 0) (oi := ⟨_, _, _, _, _, _⟩) (v := ?_) rfl (by kernel_rfl) (by kernel_rfl) (by kernel_rfl) (fun _ _ _ h => h) (Or.inl ⟨by rfl, ?_⟩) (by assumption) ?_; rotate_left; focus (intro wS hSw; (first | obtain ⟨c1, c2, c3, c4, c5⟩ := hSw | skip); go_simp; (try with_reducible rfl); done); (try simp only [Act.put, List.setIfInBounds_toArray, List.set_cons_zero, List.set_cons_succ]))
 (refine wpAnyH_take (i := 1) (oi := ⟨_, _, _, _, _, _⟩) (v := ?_) rfl (by kernel_rfl) (by kernel_rfl) (by kernel_rfl) (fun _ _ _ h => h) (Or.inl ⟨by rfl, ?_⟩) (by assumption) ?_; rotate_left; focus (intro wS hSw; (first | obtain ⟨c1, c2, c3, c4, c5⟩ := hSw | skip); go_simp; (try with_reducible rfl); done); (try simp only [Act.put, List.setIfInBounds_toArray, List.set_cons_zero, List.set_cons_succ]))
 (refine wpAnyH_take (i := 4) (oi := ⟨_, _, _, _, _, _⟩) (v := ?_) rfl (by kernel_rfl) (by kernel_rfl) (by kernel_rfl) (fun _ _ _ h => h) (Or.inl ⟨by rfl, ?_⟩) (by assumption) ?_; rotate_left; focus (intro wS hSw; (first | obtain ⟨c1, c2, c3, c4, c5⟩ := hSw | skip); go_simp; (try with_reducible rfl); done); (try simp only [Act.put, List.setIfInBounds_toArray, List.set_cons_zero, List.set_cons_succ]))
 (refine wpAnyH_take (i := 5) (oi := ⟨_, _, _, _, _, _⟩) (v := ?_) rfl (by kernel_rfl) (by kernel_rfl) (by kernel_rfl) (fun _ _ _ h => h) (Or.inl ⟨by rfl, ?_⟩) (by assumption) ?_; rotate_left; focus (intro wS hSw; (first | obtain ⟨c1, c2, c3, c4, c5⟩ := hSw | skip); go_simp; (try with_reducible rfl); done); (try simp only [Act.put, List.setIfInBounds_toArray, List.set_cons_zero, List.set_cons_succ]))
 (refine wpAnyH_take (i := 8) (oi := ⟨_, _, _, _, _, _⟩) (v := ?_) rfl (by kernel_rfl) (by kernel_rfl) (by kernel_rfl) (fun _ _ _ h => h) (Or.inl ⟨by rfl, ?_⟩) (by assumption) ?_; rotate_left; focus (intro wS hSw; (first | obtain ⟨c1, c2, c3, c4, c5⟩ := hSw | skip); go_simp; (try with_reducible rfl); done); (try simp only [Act.put, List.setIfInBounds_toArray, List.set_cons_zero, List.set_cons_succ]))
 refine wpAnyH_ready (rs := [2]) (by kernel_rfl) (by simp) ?_
 refine AllReadyH.cons (o := ⟨_, _, _, _, _, _⟩) rfl (fun KK hKK => ?_) AllReadyH.nil
 go_simp
 refine (HO.out _ (below_then HB2.out.1 hbd (Nat.le_refl _))).mono ?_
 rintro e w3 ⟨hb3, t3, B3, m3, n3, K3, u3, v3, rfl, hn3⟩
 dsimp only
 have hn3 := NdC.mono (B' := fun g => w.heap.size + 2 ≤ g) (fun g hg => HS2.out g (Nat.le_trans hbd.size hg)) _ _ _ _ hn3
 have hb3 := below_then hbd hb3 (Nat.le_refl _)
 refine hKK.out _ _ ⟨(HX.out _ (below_then HB2.out.1 hb3 (Nat.le_refl _))).1, (HX.out _ (below_then HB2.out.1 hb3 (Nat.le_refl _))).2.1, (HY.out _ hb3).1, (HY.out _ hb3).2.1, (HY.out _ hb3).2.2⟩ (fun hHeld2 => ?_)
 clear hKK KK hHeld
 have hHeld := hHeld2
 clear hHeld2
 try simp only [Act.put, List.setIfInBounds_toArray, List.set_cons_zero, List.set_cons_succ]
 refine wpAnyH_ready (rs := [3]) (by kernel_rfl) (by simp) ?_
 refine AllReadyH.cons (o := ⟨_, _, _, _, _, _⟩) rfl (fun KK hKK => ?_) AllReadyH.nil
 go_simp
 refine (only_any (fun g => w.heap.size + 2 ≤ g) true _ _ _ _ w3 (fun g hg => HS2.out g (Nat.le_trans hb3.size hg)) hn3).mono ?_
 rintro e w4 ⟨hb4, A4, c4, rfl, k41, k42, hl4⟩
 dsimp only
 have hb4 := below_then hb3 hb4 (Nat.le_refl _)
 refine hKK.out _ _ ⟨(HX.out _ (below_then HB2.out.1 hb4 (Nat.le_refl _))).1, (HX.out _ (below_then HB2.out.1 hb4 (Nat.le_refl _))).2.1, (HY.out _ hb4).1, (HY.out _ hb4).2.1, (HY.out _ hb4).2.2⟩ (fun hHeld2 => ?_)
 clear hKK KK hHeld
 have hHeld := hHeld2
 clear hHeld2
 try simp only [Act.put, List.setIfInBounds_toArray, List.set_cons_zero, List.set_cons_succ]
 refine wpAnyH_ready (rs := [6]) (by kernel_rfl) (by simp) ?_
 refine AllReadyH.cons (o := ⟨_, _, _, _, _, _⟩) rfl (fun KK hKK => ?_) AllReadyH.nil
 go_simp
 refine (truth_any w4).mono ?_
 rintro e w5 ⟨hb5, t5, B5, m5, n5, K5, u5, v5, rfl, hn5⟩
 dsimp only
 have hn5 := NdC.mono (B' := fun g => w.heap.size + 2 ≤ g) (fun g hg => HS2.out g (Nat.le_trans hb4.size hg)) _ _ _ _ hn5
 have hb45 := hb5
 have hb5 := below_then hb4 hb5 (Nat.le_refl _)
 refine hKK.out _ _ ⟨(HX.out _ (below_then HB2.out.1 hb5 (Nat.le_refl _))).1, (HX.out _ (below_then HB2.out.1 hb5 (Nat.le_refl _))).2.1, (HY.out _ hb5).1, (HY.out _ hb5).2.1, (HY.out _ hb5).2.2⟩ (fun hHeld2 => ?_)
 clear hKK KK hHeld
 have hHeld := hHeld2
 clear hHeld2
 try simp only [Act.put, List.setIfInBounds_toArray, List.set_cons_zero, List.set_cons_succ]
 refine wpAnyH_ready (rs := [7]) (by kernel_rfl) (by simp) ?_
 refine AllReadyH.cons (o := ⟨_, _, _, _, _, _⟩) rfl (fun KK hKK => ?_) AllReadyH.nil
 go_simp
 refine (only_any (fun g => w.heap.size + 2 ≤ g) b1 _ _ _ _ w5 (fun g hg => HS2.out g (Nat.le_trans hb5.size hg)) hn5).mono ?_
 rintro e w6 ⟨hb6, A6, c6, rfl, k61, k62, hl6⟩
 dsimp only
 have hb56 := hb6
 have hb6 := below_then hb5 hb6 (Nat.le_refl _)
 refine hKK.out _ _ ⟨(HX.out _ (below_then HB2.out.1 hb6 (Nat.le_refl _))).1, (HX.out _ (below_then HB2.out.1 hb6 (Nat.le_refl _))).2.1, (HY.out _ hb6).1, (HY.out _ hb6).2.1, (HY.out _ hb6).2.2⟩ (fun hHeld2 => ?_)
 clear hKK KK hHeld
 have hHeld := hHeld2
 clear hHeld2
 try simp only [Act.put, List.setIfInBounds_toArray, List.set_cons_zero, List.set_cons_succ]
 refine wpAnyH_ready (rs := [9]) (by kernel_rfl) (by simp) ?_
 refine AllReadyH.cons (o := ⟨_, _, _, _, _, _⟩) rfl (fun KK hKK => ?_) AllReadyH.nil
 go_simp
 refine (only_any (fun g => w.heap.size + 2 ≤ g) true _ _ _ _ w6 (fun g hg => HS2.out g (Nat.le_trans hb6.size hg)) (NdC.below hb6 _ _ _ _ HN.out)).mono ?_
 rintro e w7 ⟨hb7, A7, c7, rfl, k71, k72, hl7⟩
 dsimp only
 have hb67 := hb7
 have hb7 := below_then hb6 hb7 (Nat.le_refl _)
 refine hKK.out _ _ ⟨(HX.out _ (below_then HB2.out.1 hb7 (Nat.le_refl _))).1, (HX.out _ (below_then HB2.out.1 hb7 (Nat.le_refl _))).2.1, (HY.out _ hb7).1, (HY.out _ hb7).2.1, (HY.out _ hb7).2.2⟩ (fun hHeld2 => ?_)
 clear hKK KK hHeld
 have hHeld := hHeld2
 clear hHeld2
 try simp only [Act.put, List.setIfInBounds_toArray, List.set_cons_zero, List.set_cons_succ]
 refine wpAnyH_ready (rs := [10]) (by kernel_rfl) (by simp) ?_
 refine AllReadyH.cons (o := ⟨_, _, _, _, _, _⟩) rfl (fun KK hKK => ?_) AllReadyH.nil
 go_simp
 have hb78 := below_new w7 (.cells #[.slice A4 (onlyL true (oidN o.oid)).length c4, .slice A6 (onlyL b1 truthN).length c6, .slice A7 (onlyL true (Nd.mk 4 o.body [])).length c7] 31)
 have hb8 := below_then hb7 hb78 (Nat.le_refl _)
 have hq8 := heap_new_ w7 (.cells #[.slice A4 (onlyL true (oidN o.oid)).length c4, .slice A6 (onlyL b1 truthN).length c6, .slice A7 (onlyL true (Nd.mk 4 o.body [])).length c7] 31)
 have hls : Lst (lsE ndE) (fun g => w.heap.size + 2 ≤ g) (w7.alloc (.cells #[.slice A4 (onlyL true (oidN o.oid)).length c4, .slice A6 (onlyL b1 truthN).length c6, .slice A7 (onlyL true (Nd.mk 4 o.body [])).length c7] 31)) (some ⟨w7.heap.size, 0, none⟩) [onlyL true (oidN o.oid), onlyL b1 truthN, onlyL true (.mk 4 o.body [])] := lst_all hq8 rfl (HS2.out _ hb7.size) (all_three ⟨A4, c4, rfl, k41, k42, ((hl4.below hb45).below (below_then hb56 hb67 (Nat.le_refl _))).below hb78⟩ ⟨A6, c6, rfl, k61, k62, (hl6.below hb67).below hb78⟩ ⟨A7, c7, rfl, k71, k72, hl7.below hb78⟩)
 have hlen3 : ([onlyL true (oidN o.oid), onlyL b1 truthN, onlyL true (Nd.mk 4 o.body [])] : List (List Nd)).flatten.length ≤ 1000 := by
  have i1 := onlyL_len true (oidN o.oid)
  have i2 := onlyL_len b1 truthN
  have i3 := onlyL_len true (Nd.mk 4 o.body [])
  simp only [List.flatten_cons, List.flatten_nil, List.length_append, List.length_nil]
  omega
 refine hKK.out _ _ ⟨(HX.out _ (below_then HB2.out.1 hb8 (Nat.le_refl _))).1, (HX.out _ (below_then HB2.out.1 hb8 (Nat.le_refl _))).2.1, (HY.out _ hb8).1, (HY.out _ hb8).2.1, (HY.out _ hb8).2.2⟩ (fun hHeld2 => ?_)
 clear hKK KK hHeld
 have hHeld := hHeld2
 clear hHeld2
 try simp only [Act.put, List.setIfInBounds_toArray, List.set_cons_zero, List.set_cons_succ]
 refine wpAnyH_ready (rs := [11]) (by kernel_rfl) (by simp) ?_
 refine AllReadyH.cons (o := ⟨_, _, _, _, _, _⟩) rfl (fun KK hKK => ?_) AllReadyH.nil
 go_simp
 refine (joined_any (fun g => w.heap.size + 2 ≤ g) 48 _ 3 3 _ _ (by omega) (fun g hg => HS2.out g (Nat.le_trans hb8.size hg)) rfl hls (Nat.le_refl _) (by unfold maxLen; decide) (by decide) hlen3).mono ?_
 rintro e w9 ⟨hb9, t9, B9, m9, n9, K9, u9, v9, rfl, hn9⟩
 dsimp only
 have hb9 := below_then hb8 hb9 (Nat.le_refl _)
 refine hKK.out _ _ ⟨(HX.out _ (below_then HB2.out.1 hb9 (Nat.le_refl _))).1, (HX.out _ (below_then HB2.out.1 hb9 (Nat.le_refl _))).2.1, (HY.out _ hb9).1, (HY.out _ hb9).2.1, (HY.out _ hb9).2.2⟩ (fun hHeld2 => ?_)
 clear hKK KK hHeld
 have hHeld := hHeld2
 clear hHeld2
 try simp only [Act.put, List.setIfInBounds_toArray, List.set_cons_zero, List.set_cons_succ]
 have hbf := below_then HB2.out.1 hb9 (Nat.le_refl _)
 have p9 := (hbf.block (w.heap.size + 1) (by have := HB.out.2.2.1; omega)).trans HB.out.2.1
 have hBw := below_then HB.out.1 hbf (Nat.le_refl _)
 obtain ⟨r0, r1, r2, hB⟩ := res3 (b := w.heap.size + 1) (y0 := .int .u8 t9) (y1 := .slice B9 m9 n9) (y2 := .slice K9 u9 v9) (Nat.le_succ _) hBw p9
 have hn2 := res3_nd (b := w.heap.size + 1) (y0 := .int .u8 t9) (y1 := .slice B9 m9 n9) (y2 := .slice K9 u9 v9) (fun g hg => by omega) hn9
 have f0 := Lib.frozen_of_heap p9 0
 have f1 := Lib.frozen_of_heap p9 1
 have f2 := Lib.frozen_of_heap p9 2
 have s0 := (Lib.cell_of_heap p9 0).trans rfl
 have s1 := (Lib.cell_of_heap p9 1).trans rfl
 have s2 := (Lib.cell_of_heap p9 2).trans rfl
 have HE := Lib.hid (And.intro hB (NdC.mono (B' := fun g => w.heap.size ≤ g) (fun g hg => by omega) _ _ _ _ hn2))
 have hoth : ∀ g, g ≠ w.heap.size + 1 → (((w9.setCell ⟨w.heap.size + 1, 0, none⟩ (.int .u8 t9)).setCell ⟨w.heap.size + 1, 1, none⟩ (.slice B9 m9 n9)).setCell ⟨w.heap.size + 1, 2, none⟩ (.slice K9 u9 v9)).heap[g]? = w9.heap[g]? := fun g hg => set3_other w9 _ _ _ _ hg
 have hne : w1.heap.size ≠ w.heap.size + 1 := by have := HB2.out.2.1; omega
 obtain ⟨z0, z1, _⟩ := HX.out _ hbf
 obtain ⟨z3, z4, z5⟩ := HY.out _ hb9
 have hcb := And.intro ((cell_same (hoth w.heap.size (by omega))).trans z0) (And.intro ((cell_same (hoth w.heap.size (by omega))).trans z1) (And.intro ((cell_same (hoth w1.heap.size hne)).trans z3) (And.intro ((cell_same (hoth w1.heap.size hne)).trans z4) ((cell_same (hoth w1.heap.size hne)).trans z5))))
 refine wpAnyH_ready (rs := [12]) (by kernel_rfl) (by simp) ?_
 refine AllReadyH.cons (o := ⟨_, _, _, _, _, _⟩) rfl (fun KK hKK => ?_) AllReadyH.nil
 go_simp
 refine hKK.out _ _ hcb (fun hHeld2 => ?_)
 clear hKK KK hHeld
 have hHeld := hHeld2
 clear hHeld2
 try simp only [Act.put, List.setIfInBounds_toArray, List.set_cons_zero, List.set_cons_succ]
 refine wpAnyH_done (by kernel_rfl) ?_ _
 refine NoPanic.normal ?_
 clear hHeld hcb z0 z1 z3 z4 z5 s0 s1 s2 f0 f1 f2 p9 hoth hne hb3 hb4 hb5 hb6 hb7 hb8 hb9 hb45 hb56 hb67 hb78 hq8 hls hbd hbf hBw hB hn2 hn9 hn3 hn5 hl4 hl6 hl7 k41 k42 k61 k62 k71 k72 hlen3 x0 x1 x2 y0 y1 y2
 go_wp2_with fail
 refine bodyPost_ret (v := .agg #[.int .u8 t9, .slice B9 m9 n9, .slice K9 u9 v9]) ?_ rfl ⟨HE.out.1, _, _, _, _, _, _, _, rfl, HE.out.2⟩
 simp [results, Tryz.results20, go_sem, r0, r1, r2]
end Go.Proofs.YtdcpggodlggjjaaGreatDoor.nmc
