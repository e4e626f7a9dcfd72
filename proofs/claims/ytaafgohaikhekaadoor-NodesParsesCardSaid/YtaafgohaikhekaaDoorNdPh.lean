/- The document's parse at a compound value: what holds of its kids so far. -/
import Derived.Test.YtaafgohaikhekaaDoorNdPg
namespace Go.Proofs.YtaafgohaikhekaaDoor.ndc
open Go.RowKit Go.Proofs.YtaafgohaikhekaaDoor.tlvc Go.Proofs.YtaafgohaikhekaaDoor.tlvd Go.Proofs.YtaafgohaikhekaaDoor.txc
set_option linter.unusedVariables false
set_option linter.unusedSimpArgs false
/-- Kids and their bytes, as the program counts them. -/
def rkOf (ks : List Nd) (bs : List (List Int)) : RK := ⟨ks, bs.getLastD [], !risingB bs⟩
theorem rising_snoc : ∀ (bs : List (List Int)) (b : List Int), risingB (bs ++ [b]) = (risingB bs && !behind (bs.getLastD []) b)
  | [], b => by show risingB [b] = _; simp [risingB, behind_nil]
  | [a], b => by show risingB [a, b] = _; rw [rising_two]; simp [risingB]
  | a :: c :: r, b => by
    have ih := rising_snoc (c :: r) b
    show risingB (a :: c :: (r ++ [b])) = _
    rw [rising_two, rising_two]
    have e : risingB (c :: (r ++ [b])) = risingB ((c :: r) ++ [b]) := rfl
    rw [e, ih]
    have e2 : (a :: c :: r).getLastD [] = (c :: r).getLastD [] := by simp [List.getLastD]
    rw [e2, Bool.and_assoc]
theorem rk_add (ks : List Nd) (bs : List (List Int)) (n : Nd) (b : List Int) : (rkOf ks bs).add n b = rkOf (ks ++ [n]) (bs ++ [b]) := by
  unfold rkOf RK.add
  simp only
  rw [rising_snoc]
  congr 1
  · simp
  · cases risingB bs <;> simp
/-- The blocks that kids may lie in. -/
def Fre (w : World) (nb n : Nat) (o1 o2 : Option Nat) (g : Nat) : Prop := w.heap.size < g ∧ g < n ∧ g ≠ nb ∧ some g ≠ o1 ∧ some g ≠ o2
structure DInv (w : World) (nb base : Nat) (t : Int) (ks : List Nd) (bs : List (List Int)) (vs : List Value) (v7 v : Value) (cs : List Value) (wx : World) : Prop where
  box : Box0 w wx
  low : base ≤ wx.heap.size
  row : wx.ownsRow base 22 1 v7 bs.length vs
  each : ∀ j, j < bs.length → ∃ A n c, vs[j]? = some (.slice A n c) ∧ Bys w A n (bs.getD j []) ∧ n ≤ c ∧ c ≤ maxLen
  node : wx.heap[nb]? = some (.cells #[.int .u8 t, .slice none 0 0, v] 25)
  kids : wx.ownsRow base 25 3 v ks.length cs
  trips : Trips (Fre w nb wx.heap.size v.ownBlock v7.ownBlock) wx ks cs
  ne : v.ownBlock = none ∨ v.ownBlock ≠ v7.ownBlock
theorem own3_lt {w : World} {base size : Nat} {e : TypeId} {v : Value} {n : Nat} {xs : List Value} (h : w.ownsRow base e size v n xs) {g : Nat} (hg : v.ownBlock = some g) : base ≤ g ∧ g < w.heap.size := h.lt g hg
theorem own_set {w : World} {base size : Nat} {e : TypeId} {v : Value} {n : Nat} {xs : List Value} (h : w.ownsRow base e size v n xs) {nb i : Nat} (hn : nb < base) (u : Value) : (w.setCell ⟨nb, i, none⟩ u).ownsRow base e size v n xs := by
  refine ⟨h.1, ?_⟩
  rcases h.2 with hh | ⟨g, cap, cur, e, hbg, hg, r⟩
  · exact .inl hh
  · exact .inr ⟨g, cap, cur, e, hbg, (set_heap_other _ _ _ _ _ (by omega)).trans hg, r⟩
/-- Up to the list's own append. -/
theorem DInv.mid {w wx w1 w3 w4 : World} {nb base : Nat} {t : Int} {ks : List Nd} {bs : List (List Int)} {vs cs : List Value} {v7 v : Value} (h : DInv w nb base t ks bs vs v7 v cs wx) (hnb : nb < base) (hb1 : Below wx.heap.size wx w1) (hb3 : Below w1.heap.size w1 w3) (hgr : w3.grownBy w4 v.ownBlock) (v' : Value) (o : Obj) :
    ((w4.setCell ⟨nb, 2, none⟩ v').alloc o).ownsRow base 22 1 v7 bs.length vs := by
  have r1 := own_below (own_below h.row hb1) hb3
  have r4 := r1.kept hgr (by
    rcases h.ne with e | e
    · cases h7 : v7.ownBlock with
      | none => exact .inl rfl
      | some g => exact .inr (by rw [e]; simp)
    · exact .inr (fun k => e k.symm))
  exact (own_set r4 hnb v').alloc o
theorem DInv.node4 {w wx w1 w3 w4 : World} {nb base : Nat} {t : Int} {ks : List Nd} {bs : List (List Int)} {vs cs : List Value} {v7 v : Value} (h : DInv w nb base t ks bs vs v7 v cs wx) (hnb : nb < base) (hb1 : Below wx.heap.size wx w1) (hb3 : Below w1.heap.size w1 w3) (hgr : w3.grownBy w4 v.ownBlock) :
    w4.heap[nb]? = some (.cells #[.int .u8 t, .slice none 0 0, v] 25) := by
  have hlow := h.low
  have z1 := hb1.size
  have z3 := hb3.size
  rw [hgr.block nb (by omega) (fun e => by have := (own3_lt h.kids e.symm).1; omega), hb3.block nb (by omega), hb1.block nb (by omega)]
  exact h.node
theorem DInv.step {w wx w1 w3 w4 w7 : World} {nb base : Nat} {t : Int} {ks : List Nd} {bs : List (List Int)} {vs cs : List Value} {v7 v v' v7' : Value} (h : DInv w nb base t ks bs vs v7 v cs wx) (hwn : w.heap.size < nb) (hnb : nb < base)
    (hb1 : Below wx.heap.size wx w1) {n : Nd} {c0 c1 c2 : Value} (hn : NdC (fun g => wx.heap.size ≤ g) w1 n c0 c1 c2) (hb3 : Below w1.heap.size w1 w3)
    (hown' : w4.ownsRow base 25 3 v' (ks.length + 1) (cs ++ [c0, c1, c2])) (hgr : w3.grownBy w4 v.ownBlock) (hob : v'.ownBlock = v.ownBlock ∨ ∃ g', v'.ownBlock = some g' ∧ w3.heap.size ≤ g')
    {A : Option Addr} {m c : Nat} {b : List Int} (hA : Bys w A m b) (hmc : m ≤ c ∧ c ≤ maxLen)
    (hrow' : w7.ownsRow base 22 1 v7' (bs.length + 1) (vs ++ [.slice A m c])) (g7 : ((w4.setCell ⟨nb, 2, none⟩ v').alloc (.cells #[.slice A m c] 22)).grownBy w7 v7.ownBlock)
    (b7 : v7'.ownBlock = v7.ownBlock ∨ ∃ g', v7'.ownBlock = some g' ∧ ((w4.setCell ⟨nb, 2, none⟩ v').alloc (.cells #[.slice A m c] 22)).heap.size ≤ g') :
    DInv w nb base t (ks ++ [n]) (bs ++ [b]) (vs ++ [.slice A m c]) v7' v' (cs ++ [c0, c1, c2]) w7 := by
  have hlow := h.low
  have z1 := hb1.size
  have z3 := hb3.size
  have z4 := hgr.size
  have hz6 : ((w4.setCell ⟨nb, 2, none⟩ v').alloc (.cells #[.slice A m c] 22)).heap.size = w4.heap.size + 1 := by simp [set_size]
  have z7 := g7.size
  rw [hz6] at z7 b7
  have l1 : ∀ g, v.ownBlock = some g → base ≤ g ∧ g < wx.heap.size := fun g hg => own3_lt h.kids hg
  have l7 : ∀ g, v7.ownBlock = some g → base ≤ g ∧ g < wx.heap.size := fun g hg => own3_lt h.row hg
  have hw0 := h.box.size
  have k7 : ∀ g, g < w4.heap.size → g ≠ nb → some g ≠ v7.ownBlock → w7.heap[g]? = w4.heap[g]? := fun g hg hn7 ho => by
    rw [g7.block g (by rw [hz6]; omega) ho, heap_old_ _ _ (by rw [set_size]; exact hg), set_heap_other _ _ _ _ _ hn7]
  have stay : ∀ g, g < wx.heap.size → g ≠ nb → some g ≠ v.ownBlock → some g ≠ v7.ownBlock → w7.heap[g]? = wx.heap[g]? := fun g hg hn7 ho1 ho7 => by
    rw [k7 g (by omega) hn7 ho7, hgr.block g (by omega) ho1, hb3.block g (by omega), hb1.block g hg]
  have fresh : ∀ g, wx.heap.size ≤ g → g < w1.heap.size → w7.heap[g]? = w1.heap[g]? := fun g h1 h2 => by
    rw [k7 g (by omega) (by omega) (fun e => by have := (l7 g e.symm).2; omega), hgr.block g (by omega) (fun e => by have := (l1 g e.symm).2; omega), hb3.block g h2]
  have n4 := h.node4 hnb hb1 hb3 hgr
  have hne' : v'.ownBlock = none ∨ v'.ownBlock ≠ v7'.ownBlock := by
    rcases hob with k | ⟨g', k, hg'⟩
    · rcases h.ne with e | e
      · exact .inl (k.trans e)
      · rcases b7 with k8 | ⟨g8, k8, hg8⟩
        · exact .inr (by rw [k, k8]; exact e)
        · right; rw [k, k8]; intro e2; have := (l1 _ e2).2; omega
    · right
      rw [k]
      intro e2
      rcases b7 with k8 | ⟨g8, k8, hg8⟩
      · rw [k8] at e2; have := (l7 _ e2.symm).2; omega
      · rw [k8] at e2; cases e2
        have := (own3_lt hown' k).2
        omega
  have new1 : ∀ g, some g ≠ v.ownBlock → g < w3.heap.size → some g ≠ v'.ownBlock := fun g hn hl e => by
    rcases hob with k | ⟨g', k, hg'⟩
    · rw [k] at e; exact hn e
    · rw [k] at e; cases e; omega
  have new7 : ∀ g, some g ≠ v7.ownBlock → g < w3.heap.size → some g ≠ v7'.ownBlock := fun g hn hl e => by
    rcases b7 with k | ⟨g', k, hg'⟩
    · rw [k] at e; exact hn e
    · rw [k] at e; cases e; omega
  have hkids : w7.ownsRow base 25 3 v' (ks.length + 1) (cs ++ [c0, c1, c2]) := by
    refine ((own_set hown' hnb v').alloc _).kept g7 ?_
    rcases hob with k | ⟨g', k, hg'⟩
    · rcases h.ne with e | e
      · exact .inl (k.trans e)
      · exact .inr (by rw [k]; exact e)
    · refine .inr ?_
      rw [k]
      intro e2
      have := (l7 _ e2.symm).2; omega
  have hst : Stays (Fre w nb wx.heap.size v.ownBlock v7.ownBlock) wx w7 := ⟨by omega, fun p hp hl => cell_same (stay p.block hl hp.2.2.1 hp.2.2.2.1 hp.2.2.2.2)⟩
  have hst1 : Stays (fun g => wx.heap.size ≤ g) w1 w7 := ⟨by omega, fun p hp hl => cell_same (fresh p.block hp hl)⟩
  refine ⟨⟨⟨?_, ?_, ?_, by have := h.box.bel.size; omega, fun g hg => ?_⟩, ?_⟩, by omega, by rw [List.length_append]; exact hrow', fun j hj => ?_, ?_, by rw [List.length_append]; exact hkids, ?_, hne'⟩
  · rw [g7.os]; show w4.os = _; rw [hgr.os, hb3.os, hb1.os]; exact h.box.bel.os
  · rw [g7.tape]; show w4.tape = _; rw [hgr.tape, hb3.tape, hb1.tape]; exact h.box.bel.tape
  · rw [g7.output]; show w4.output = _; rw [hgr.output, hb3.output, hb1.output]; exact h.box.bel.output
  · rw [stay g (by omega) (by omega) (fun e => by have := (l1 g e.symm).1; omega) (fun e => by have := (l7 g e.symm).1; omega)]
    exact h.box.bel.block g hg
  · rw [stay w.heap.size hw0 (by omega) (fun e => by have := (l1 _ e.symm).1; omega) (fun e => by have := (l7 _ e.symm).1; omega)]
    exact h.box.res
  · rw [List.length_append] at hj
    have hvl : vs.length = bs.length := by have := h.row.1; omega
    by_cases hlt : j < bs.length
    · obtain ⟨A', n', c', e1, e2, e3⟩ := h.each j hlt
      have hg : (bs ++ [b]).getD j [] = bs.getD j [] := by simp [List.getD_eq_getElem?_getD, List.getElem?_append_left hlt]
      exact ⟨A', n', c', by rw [List.getElem?_append_left (by omega)]; exact e1, by rw [hg]; exact e2, e3⟩
    · obtain rfl : j = bs.length := by simp at hj; omega
      have hg : (bs ++ [b]).getD bs.length [] = b := by simp [List.getD_eq_getElem?_getD]
      exact ⟨A, m, c, by rw [List.getElem?_append_right (by omega), hvl, Nat.sub_self]; rfl, by rw [hg]; exact hA, hmc⟩
  · have hz5 : nb < (w4.setCell ⟨nb, 2, none⟩ v').heap.size := by rw [set_size]; omega
    rw [g7.block nb (by rw [hz6]; omega) (fun e => by have := (l7 nb e.symm).1; omega), heap_old_ _ _ hz5]
    exact set_heap _ _ 2 _ _ _ _ n4
  · have told := (h.trips.stays hst).mono (S' := Fre w nb w7.heap.size v'.ownBlock v7'.ownBlock) fun g ⟨h1, h2, h3, h4, h5⟩ => ⟨h1, by omega, h3, new1 g h4 (by omega), new7 g h5 (by omega)⟩
    exact told.snoc (NdC.below2 hst1 hn (fun g h1 h2 => ⟨by omega, by omega, by omega, new1 g (fun e => by have := (l1 g e.symm).2; omega) (by omega), new7 g (fun e => by have := (l7 g e.symm).2; omega) (by omega)⟩))
theorem DInv.drewN {w wx : World} {nb base : Nat} {t : Int} {ks : List Nd} {bs : List (List Int)} {vs cs : List Value} {v7 v : Value} (h : DInv w nb base t ks bs vs v7 v cs wx) (q : Nat) : DInv w nb base t ks bs vs v7 v cs (wx.drewN q) :=
  ⟨h.box.drewN q, h.low, h.row, h.each, h.node, h.kids, h.trips.stays (show Stays (Fre w nb wx.heap.size v.ownBlock v7.ownBlock) wx (wx.drewN q) from ⟨Nat.le_refl wx.heap.size, fun p _ _ => rfl⟩), h.ne⟩
theorem DInv.below {w wx wy : World} {nb base : Nat} {t : Int} {ks : List Nd} {bs : List (List Int)} {vs cs : List Value} {v7 v : Value} (h : DInv w nb base t ks bs vs v7 v cs wx) (hb : Below wx.heap.size wx wy) (hnl : nb < wx.heap.size) : DInv w nb base t ks bs vs v7 v cs wy :=
  ⟨h.box.below hb, Nat.le_trans h.low hb.size, own_below h.row hb, h.each, (hb.block nb hnl).trans h.node, own_below h.kids hb, (h.trips.stays (stays_below hb _)).mono fun g ⟨h1, h2, h3, h4, h5⟩ => ⟨h1, Nat.lt_of_lt_of_le h2 hb.size, h3, h4, h5⟩, h.ne⟩
/-- The list reads as what it holds. -/
theorem DInv.reads {w wx : World} {nb base : Nat} {t : Int} {ks : List Nd} {bs : List (List Int)} {vs cs : List Value} {v7 v : Value} (h : DInv w nb base t ks bs vs v7 v cs wx) : ∃ L c, v7 = .slice L bs.length c ∧ bs.length ≤ c ∧ c ≤ maxLen ∧ Bss wx L bs.length bs := by
  have hv1 := h.row
  obtain ⟨L, c, e, h1, h2, h3⟩ := own_shape hv1
  refine ⟨L, c, e, h1, h2, rfl, fun hn => ?_⟩
  obtain ⟨g, hL, hg1, hg2⟩ := h3 0 hn
  subst hL
  refine ⟨g, 0, rfl, hg2, fun j hj => ?_⟩
  obtain ⟨A, n, c', e1, e2, e3, e4⟩ := h.each j hj
  subst e
  exact ⟨A, n, c', by rw [Nat.zero_add, hv1.cellAt j (by omega)]; exact e1, e2.below h.box.bel, e3, e4⟩
/-- The node with its kids. -/
theorem DInv.nd {w wx : World} {nb base : Nat} {t : Int} {ks : List Nd} {bs : List (List Int)} {vs cs : List Value} {v7 v : Value} (h : DInv w nb base t ks bs vs v7 v cs wx) (htag : 0 ≤ t ∧ t ≤ 255) (hwn : w.heap.size < nb) (hnb : nb < base) : NdC (fun g => w.heap.size < g) wx (.mk t [] ks) (.int .u8 t) (.slice none 0 0) v := by
  have ht2 := h.trips.mono (S' := fun g => w.heap.size < g) fun g hg => hg.1
  unfold NdC
  refine ⟨rfl, htag, ⟨none, 0, 0, rfl, Nat.le_refl _, Nat.zero_le _, Bys.nil_ _ _, fun h => absurd h (by omega)⟩, ?_⟩
  have hown := h.kids
  rcases hown.2 with ⟨rfl, hn⟩ | ⟨g, cap, cur, hve, hbg, hg, hnc, hcm, hcs, htake⟩
  · exact ⟨none, 0, by rw [hn], by omega, Nat.zero_le _, fun h => absurd h (by omega)⟩
  · subst hve
    refine ⟨some ⟨g, 0, none⟩, cap, rfl, hnc, hcm, fun _ => ⟨g, 0, rfl, (Array.getElem?_eq_some_iff.1 hg).1, by omega, Trips.kids ht2 fun j u hu => ?_⟩⟩
    have := hown.cells (g := g) rfl j u hu
    rwa [Addr.add_lit] at this
end Go.Proofs.YtaafgohaikhekaaDoor.ndc
