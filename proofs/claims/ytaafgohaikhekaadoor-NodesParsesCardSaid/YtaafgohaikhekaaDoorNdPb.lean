/- The document's printed: its kids' bytes so far. -/
import Derived.Test.YtaafgohaikhekaaDoorNdPa
import Derived.Test.YtaafgohaikhekaaDoorNdC
namespace Go.Proofs.YtaafgohaikhekaaDoor.ndc
open Go.RowKit Go.Proofs.YtaafgohaikhekaaDoor.tlvc Go.Proofs.YtaafgohaikhekaaDoor.tlvd Go.Proofs.YtaafgohaikhekaaDoor.txc
set_option linter.unusedVariables false
set_option linter.unusedSimpArgs false
theorem Tryd.infoBytes : (Tryd.prog.info? 22).map (fun i => (i.zero, i.size, i.bytes)) = some (some (.slice none 0 0), 1, 24) := by kernel_rfl
/-- append of one row of bytes to a list of such of the call's own. -/
theorem app_row (w : World) (base : Nat) (v : Value) (n : Nat) (cs : List Value) (hown : w.ownsRow base 22 1 v n cs) (g : Nat) (c0 : Value) (h0 : w.cell? ⟨g, 0, none⟩ = some c0) (o0 : c0.oneCell' = true) (hn : n ≤ 100000) (hbase : base ≤ w.heap.size) :
    ∃ v' w', (Builtin.append_ #[54, 54] 54 #[v, .slice (some ⟨g, 0, none⟩) 1 1]).run Tryd.prog w = .ok v' w' ∧ w'.ownsRow base 22 1 v' (n + 1) (cs ++ [c0]) ∧ w.grownBy w' v.ownBlock ∧ (v'.ownBlock = v.ownBlock ∨ ∃ g', v'.ownBlock = some g' ∧ w.heap.size ≤ g') := by
  obtain ⟨i0, hi, hz0, hz1, hz2⟩ := info_parts Tryd.infoBytes
  obtain ⟨v', w', h1, h2, h3, _, h5⟩ := app_gen (P := Tryd.prog) w base 54 54 22 i0 (.slice none 0 0) 1 24 Tryd.underlying54 hi hz0 hz1 hz2 rfl (by decide) v n cs hown ⟨g, 0, none⟩ 1 1 [c0] rfl
    (fun j u hu => by
      rw [Addr.add_lit, Nat.zero_add]
      match j, hu with
      | 0, hu => cases hu; exact h0
      | j + 1, hu => simp at hu) (fun u hu => by rw [List.mem_singleton] at hu; subst hu; exact o0) (by unfold maxLen; omega) (by omega) hbase
  exact ⟨v', w', h1, h2, h3, h5⟩
/-- append of bytes to a row of the call's own, of any length that may be. -/
theorem app_many (w : World) (base : Nat) (v : Value) (n : Nat) (cs : List Value) (hown : w.ownsRow base 5 1 v n cs) (A : Option Addr) (m c : Nat) (ys : List Int) (hb : Bys w A m ys) (hn : n + m ≤ 100000000000) (hbase : base ≤ w.heap.size) :
    ∃ v' w', (Builtin.append_ #[22, 22] 22 #[v, .slice A m c]).run Tryd.prog w = .ok v' w' ∧ w'.ownsRow base 5 1 v' (n + m) (cs ++ vals ys) ∧ w.grownBy w' v.ownBlock ∧ (v'.ownBlock = v.ownBlock ∨ ∃ g', v'.ownBlock = some g' ∧ w.heap.size ≤ g') := by
  obtain ⟨i0, hi, hz0, hz1, hz2⟩ := info_parts intc.Tryd.info5
  rcases A with _ | ad
  · have hm : m = 0 := by
      rcases Nat.eq_zero_or_pos m with h0 | h0
      · exact h0
      · obtain ⟨b, off, h, _⟩ := hb.2.2 h0
        cases h
    subst hm
    have hn : ys = [] := List.eq_nil_of_length_eq_zero hb.1
    subst hn
    exact ⟨v, w, run_app_nil w base 22 22 5 i0 Tryd.underlying22 hi v n cs hown c, by simpa [vals] using hown, World.grownBy.refl w _, .inl rfl⟩
  · obtain ⟨v', w', h1, h2, h3, _, h5⟩ := app_gen (P := Tryd.prog) w base 22 22 5 i0 (.int .u8 0) 1 1 Tryd.underlying22 hi hz0 hz1 hz2 rfl (by decide) v n cs hown ad m c (vals ys) (by rw [vals_length, hb.1]; omega)
      (fun j u hu => by
        have hj : j < ys.length := by
          have := (List.getElem?_eq_some_iff.1 hu).1
          rwa [vals_length] at this
        obtain ⟨b, off, h, _, hc⟩ := hb.2.2 (by have := hb.1; omega)
        cases h
        rw [Addr.add_lit, hc j (by have := hb.1; omega), ← hu]
        simp [vals, List.getD_eq_getElem?_getD, List.getElem?_eq_getElem hj]) (vals_one ys) (by unfold maxLen; omega) (by omega) hbase
    exact ⟨v', w', h1, h2, h3, h5⟩
/-- The kids' bytes so far: each by itself, and all in one. -/
structure PInv (w : World) (bs : List (List Int)) (vs : List Value) (v7 v8 : Value) (wx : World) : Prop where
  bel : Below w.heap.size w wx
  row : wx.ownsRow w.heap.size 22 1 v7 bs.length vs
  each : ∀ j, j < bs.length → ∃ A n c, vs[j]? = some (.slice A n c) ∧ Bys wx A n (bs.getD j []) ∧ n ≤ c ∧ c ≤ maxLen ∧ ∀ g off sp, A = some ⟨g, off, sp⟩ → some g ≠ v7.ownBlock ∧ some g ≠ v8.ownBlock ∧ g < wx.heap.size
  own : wx.ownsRow w.heap.size 5 1 v8 bs.flatten.length (vals bs.flatten)
  ne : v7.ownBlock = none ∨ v7.ownBlock ≠ v8.ownBlock
  fit : Fit bs.flatten
theorem PInv.start (w : World) : PInv w [] [] (.slice none 0 0) (.slice none 0 0) w :=
  ⟨Below.refl _ _, World.ownsRow_nil _ _ _ _, fun j hj => absurd hj (by simp), World.ownsRow_nil _ _ _ _, .inl rfl, fun x hx => absurd hx (by simp)⟩
theorem PInv.below {w wx wy : World} {bs : List (List Int)} {vs : List Value} {v7 v8 : Value} (h : PInv w bs vs v7 v8 wx) (hb : Below wx.heap.size wx wy) : PInv w bs vs v7 v8 wy := by
  have h1 := h.row
  have h2 := h.each
  refine ⟨h.bel.trans (hb.mono h.bel.size), own_below h1 hb, fun j hj => ?_, own_below h.own hb, h.ne, h.fit⟩
  obtain ⟨A, n, c, e1, e2, e3, e4, e5⟩ := h2 j hj
  exact ⟨A, n, c, e1, e2.below hb, e3, e4, fun g off sp e => ⟨(e5 g off sp e).1, (e5 g off sp e).2.1, Nat.lt_of_lt_of_le (e5 g off sp e).2.2 hb.size⟩⟩
theorem own_lt {w : World} {base : Nat} {e : TypeId} {v : Value} {n : Nat} {xs : List Value} (h : w.ownsRow base e 1 v n xs) {g : Nat} (hg : v.ownBlock = some g) : base ≤ g ∧ g < w.heap.size := h.lt g hg
theorem PInv.own8 {w wx w1 w2 : World} {bs : List (List Int)} {vs : List Value} {v7 v8 : Value} (h : PInv w bs vs v7 v8 wx) (hn1 : Below wx.heap.size wx w1) (g7 : w1.grownBy w2 v7.ownBlock) : w2.ownsRow w.heap.size 5 1 v8 bs.flatten.length (vals bs.flatten) := by
  refine (own_below h.own hn1).kept g7 ?_
  rcases h.ne with e | e
  · cases h8 : v8.ownBlock with
    | none => exact .inl rfl
    | some g => exact .inr (by rw [e]; simp)
  · exact .inr (fun k => e k.symm)
/-- One kid more: its bytes lie in a block of their own. -/
theorem PInv.step {w wx w1 w2 w3 : World} {bs : List (List Int)} {vs : List Value} {v7 v8 v7' v8' : Value} (h : PInv w bs vs v7 v8 wx) {A : Option Addr} {n c : Nat} {b : List Int} (hb : Bys wx A n b) (hc : n ≤ c ∧ c ≤ maxLen)
    (hfar : ∀ g off sp, A = some ⟨g, off, sp⟩ → some g ≠ v7.ownBlock ∧ some g ≠ v8.ownBlock ∧ g < wx.heap.size)
    (h1 : w1 = wx.alloc (.cells #[.slice A n c] 22))
    (ho7 : w2.ownsRow w.heap.size 22 1 v7' (bs.length + 1) (vs ++ [.slice A n c])) (g7 : w1.grownBy w2 v7.ownBlock) (b7 : v7'.ownBlock = v7.ownBlock ∨ ∃ g', v7'.ownBlock = some g' ∧ w1.heap.size ≤ g')
    (ho8 : w3.ownsRow w.heap.size 5 1 v8' (bs.flatten.length + n) (vals bs.flatten ++ vals b)) (g8 : w2.grownBy w3 v8.ownBlock) (b8 : v8'.ownBlock = v8.ownBlock ∨ ∃ g', v8'.ownBlock = some g' ∧ w2.heap.size ≤ g') :
    PInv w (bs ++ [b]) (vs ++ [.slice A n c]) v7' v8' w3 := by
  have hn1 : Below wx.heap.size wx w1 := by rw [h1]; exact below_new _ _
  have hv1 := h.row
  have hv2 := h.each
  have hz1 : w1.heap.size = wx.heap.size + 1 := by rw [h1]; simp
  have hz2 := g7.size
  have hz3 := g8.size
  -- a block that was there and is neither's stays
  have stay : ∀ g, g < wx.heap.size → some g ≠ v7.ownBlock → some g ≠ v8.ownBlock → w3.heap[g]? = wx.heap[g]? := fun g hg n7 n8 => by
    rw [g8.block g (by omega) n8, g7.block g (by omega) n7, h1, heap_old_ _ _ hg]
  have keepB : ∀ {A' : Option Addr} {m : Nat} {xs : List Int}, Bys wx A' m xs → (∀ g off sp, A' = some ⟨g, off, sp⟩ → some g ≠ v7.ownBlock ∧ some g ≠ v8.ownBlock ∧ g < wx.heap.size) → Bys w3 A' m xs := fun {A' m xs} hA hn => by
    refine bys_stays (B := fun g => some g ≠ v7.ownBlock ∧ some g ≠ v8.ownBlock) ⟨by omega, fun p hp hl => cell_same (stay p.block hl hp.1 hp.2)⟩ hA (fun _ g off sp e => ⟨(hn g off sp e).1, (hn g off sp e).2.1⟩)
  have new7 : ∀ g, some g ≠ v7.ownBlock → g < wx.heap.size → some g ≠ v7'.ownBlock := fun g hn hl e => by
    rcases b7 with k | ⟨g', k, hg'⟩
    · rw [k] at e; exact hn e
    · rw [k] at e; cases e; omega
  have new8 : ∀ g, some g ≠ v8.ownBlock → g < wx.heap.size → some g ≠ v8'.ownBlock := fun g hn hl e => by
    rcases b8 with k | ⟨g', k, hg'⟩
    · rw [k] at e; exact hn e
    · rw [k] at e; cases e; omega
  have l8 : ∀ g, v8.ownBlock = some g → g < wx.heap.size := fun g hg => (own_lt h.own hg).2
  have hne' : v7'.ownBlock = none ∨ v7'.ownBlock ≠ v8'.ownBlock := by
    rcases b7 with k7 | ⟨g7', k7, hg7⟩
    · rcases h.ne with e | e
      · exact .inl (k7.trans e)
      · rcases b8 with k8 | ⟨g8', k8, hg8⟩
        · exact .inr (by rw [k7, k8]; exact e)
        · right
          rw [k7, k8]
          intro e2
          have := (own_lt hv1 e2).2
          omega
    · right
      rw [k7]
      intro e2
      rcases b8 with k8 | ⟨g8', k8, hg8⟩
      · rw [k8] at e2; have := l8 _ e2.symm; omega
      · rw [k8] at e2; cases e2
        have := (own_lt ho7 k7).2
        omega
  have hlen : (bs ++ [b]).length = bs.length + 1 := by simp
  have hfl : (bs ++ [b]).flatten = bs.flatten ++ b := by simp
  have hnb : b.length = n := hb.1
  have ho7w3 : w3.ownsRow w.heap.size 22 1 v7' (bs.length + 1) (vs ++ [.slice A n c]) := by
    refine ho7.kept g8 ?_
    rcases b7 with k7 | ⟨g7', k7, hg7⟩
    · rcases h.ne with e | e
      · exact .inl (k7.trans e)
      · exact .inr (by rw [k7]; exact e)
    · refine .inr ?_
      rw [k7]
      intro e2
      have := l8 _ e2.symm; omega
  have hvl : vs.length = bs.length := by have := hv1.1; omega
  refine ⟨?_, by rw [hlen]; exact ho7w3, fun j hj => ?_, by rw [hfl, vals_append, List.length_append, hnb]; exact ho8, hne', by rw [hfl]; exact h.fit.app hb.2.1⟩
  · refine ⟨?_, ?_, ?_, by have := h.bel.size; omega, fun g hg => ?_⟩
    · rw [g8.os, g7.os, hn1.os]; exact h.bel.os
    · rw [g8.tape, g7.tape, hn1.tape]; exact h.bel.tape
    · rw [g8.output, g7.output, hn1.output]; exact h.bel.output
    · rw [stay g (by have := h.bel.size; omega) (fun e => by have := (own_lt hv1 e.symm).1; omega) (fun e => by have := (own_lt h.own e.symm).1; omega)]
      exact h.bel.block g hg
  · rw [hlen] at hj
    by_cases hlt : j < bs.length
    · obtain ⟨A', n', c', e1, e2, e3, e4, e5⟩ := hv2 j hlt
      have hg : (bs ++ [b]).getD j [] = bs.getD j [] := by simp [List.getD_eq_getElem?_getD, List.getElem?_append_left hlt]
      refine ⟨A', n', c', by rw [List.getElem?_append_left (by omega)]; exact e1, by rw [hg]; exact keepB e2 e5, e3, e4, fun g off sp e => ⟨new7 g (e5 g off sp e).1 (e5 g off sp e).2.2, new8 g (e5 g off sp e).2.1 (e5 g off sp e).2.2, by have := (e5 g off sp e).2.2; omega⟩⟩
    · obtain rfl : j = bs.length := by omega
      have hg : (bs ++ [b]).getD bs.length [] = b := by simp [List.getD_eq_getElem?_getD]
      refine ⟨A, n, c, by rw [List.getElem?_append_right (by omega), hvl, Nat.sub_self]; rfl, by rw [hg]; exact keepB hb hfar, hc.1, hc.2, fun g off sp e => ⟨new7 g (hfar g off sp e).1 (hfar g off sp e).2.2, new8 g (hfar g off sp e).2.1 (hfar g off sp e).2.2, by have := (hfar g off sp e).2.2; omega⟩⟩
/-- The list reads as what it holds. -/
theorem PInv.reads {w wx : World} {bs : List (List Int)} {vs : List Value} {v7 v8 : Value} (h : PInv w bs vs v7 v8 wx) : ∃ L c, v7 = .slice L bs.length c ∧ bs.length ≤ c ∧ c ≤ maxLen ∧ Bss wx L bs.length bs := by
  have hv1 := h.row
  have hv2 := h.each
  obtain ⟨L, c, e, h1, h2, h3⟩ := own_shape hv1
  refine ⟨L, c, e, h1, h2, rfl, fun hn => ?_⟩
  obtain ⟨g, hL, hg1, hg2⟩ := h3 0 hn
  subst hL
  refine ⟨g, 0, rfl, hg2, fun j hj => ?_⟩
  obtain ⟨A, n, c', e1, e2, e3, e4, _⟩ := hv2 j hj
  subst e
  exact ⟨A, n, c', by rw [Nat.zero_add, hv1.cellAt j (by omega)]; exact e1, e2, e3, e4⟩
end Go.Proofs.YtaafgohaikhekaaDoor.ndc
