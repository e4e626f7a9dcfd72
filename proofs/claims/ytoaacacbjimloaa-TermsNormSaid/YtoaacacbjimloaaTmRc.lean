/- A copy of a term in work. -/
import Derived.Test.YtoaacacbjimloaaTmRa
namespace Go.Proofs.Ytoaacacbjimloaa.tmc
open Go.RowKit Go.Proofs.Ytoaacacbjimloaa.tlvc
set_option linter.unusedVariables false
def No (g : Nat) : Prop := False
structure CI (w : World) (o m : Int) (d : List Int) (A : Option Addr) (la ca : Nat) (ks : List Tm) (i : Nat) (R : Option Addr) (c : Nat) (wx : World) : Prop where
  bel : Below w.heap.size w wx
  box : wx.heap[w.heap.size]? = some (.cells #[.int .i64 o, .int .i64 m, .slice A la ca, .slice R i c] 26)
  res : wx.heap[w.heap.size + 1]? = some (.cells #[.int .i64 0, .int .i64 0, .slice none 0 0, .slice none 0 0] 26)
  data : Bys wx A la d
  far : 0 < la → ∀ g off sp, A = some ⟨g, off, sp⟩ → Out No w g ∧ some g ≠ (Value.slice R 0 0).ownBlock
  lst : RNI No w i R c (ks.take i) wx
theorem CI.size {w : World} {o m : Int} {d : List Int} {A : Option Addr} {la ca : Nat} {ks : List Tm} {i : Nat} {R : Option Addr} {c : Nat} {wx : World} (h : CI w o m d A la ca ks i R c wx) : w.heap.size + 2 ≤ wx.heap.size := (Array.getElem?_eq_some_iff.1 h.res).1
theorem CI.below {w : World} {o m : Int} {d : List Int} {A : Option Addr} {la ca : Nat} {ks : List Tm} {i : Nat} {R : Option Addr} {c : Nat} {wx wy : World} (h : CI w o m d A la ca ks i R c wx) (hb : Below wx.heap.size wx wy) : CI w o m d A la ca ks i R c wy :=
  have z := h.size
  ⟨h.bel.trans (hb.mono h.bel.size), (hb.block _ (by omega)).trans h.box, (hb.block _ (by omega)).trans h.res, h.data.below hb, h.far, h.lst.below hb⟩
/-- The list is laid into the box again. -/
theorem CI.stored {w : World} {o m : Int} {d : List Int} {A : Option Addr} {la ca : Nat} {ks : List Tm} {i : Nat} {R R' : Option Addr} {c c' n' : Nat} {wx : World} (h0 : Below w.heap.size w wx)
    (hbox : wx.heap[w.heap.size]? = some (.cells #[.int .i64 o, .int .i64 m, .slice A la ca, .slice R n' c] 26)) (hres : wx.heap[w.heap.size + 1]? = some (.cells #[.int .i64 0, .int .i64 0, .slice none 0 0, .slice none 0 0] 26)) (hd : Bys wx A la d) (hf : 0 < la → ∀ g off sp, A = some ⟨g, off, sp⟩ → Out No w g ∧ some g ≠ (Value.slice R' 0 0).ownBlock) (hl : RNI No w i R' c' (ks.take i) wx) :
    CI w o m d A la ca ks i R' c' (wx.setCell ⟨w.heap.size, 3, none⟩ (.slice R' i c')) := by
  have hst : Stays (fun g => Out No w g) wx (wx.setCell ⟨w.heap.size, 3, none⟩ (.slice R' i c')) := ⟨by rw [set_size]; exact Nat.le_refl _, fun p hp hl => cell_same (set_heap_other _ _ _ _ _ (fun e => by unfold Out No at hp; omega))⟩
  obtain ⟨cs, hown, hqs⟩ := hl.row
  refine ⟨h0.setCell (Nat.le_refl _) _, set_heap _ _ 3 _ _ _ _ hbox, (set_heap_other _ _ _ _ _ (by omega)).trans hres, bys_stays hst hd (fun hl g off sp e => (hf hl g off sp e).1), hf, hl.len, cs, ?_, Quads.stays ⟨hst.1, fun p hp hl => hst.2 p hp.1 hl⟩ hqs⟩
  refine ⟨hown.1, ?_⟩
  rcases hown.2 with h | ⟨g, cap, cur, e, h1, h2, h3⟩
  · exact .inl h
  · exact .inr ⟨g, cap, cur, e, h1, (set_heap_other _ _ _ _ _ (by omega)).trans h2, h3⟩
theorem CI.step {w : World} {o m : Int} {d : List Int} {A : Option Addr} {la ca : Nat} {ks : List Tm} {i : Nat} {R : Option Addr} {c : Nat} {wx w5 : World} (h : CI w o m d A la ca ks i R c wx) (hb5 : Below wx.heap.size wx w5) {k : Tm} (hki : ks[i]? = some k) (hi : i ≤ 100000) {n0 n1 n2 n3 : Value} (hk : TmC (fun g => wx.heap.size ≤ g) w5 k n0 n1 n2 n3) :
    ∃ A' c' w', (Builtin.append_ #[24, 24] 24 #[.slice R i c, .slice (some ⟨w5.heap.size, 0, none⟩) 1 1]).run Try.prog (w5.alloc (.cells #[n0, n1, n2, n3] 26)) = .ok (.slice A' (i + 1) c') w' ∧ w'.cell? ⟨w.heap.size, 3, none⟩ = some (.slice R i c) ∧ w'.frozen? ⟨w.heap.size, 3, none⟩ = false ∧
      CI w o m d A la ca ks (i + 1) A' c' (w'.setCell ⟨w.heap.size, 3, none⟩ (.slice A' (i + 1) c')) := by
  have hz := h.size
  have hb6 : Below wx.heap.size wx (w5.alloc (.cells #[n0, n1, n2, n3] 26)) := hb5.trans ((below_new w5 (.cells #[n0, n1, n2, n3] 26)).mono hb5.size)
  have h6 := h.below hb6
  have hlt : ∀ g, (Value.slice R 0 0).ownBlock = some g → w.heap.size + 2 ≤ g ∧ g < wx.heap.size := fun g e => by
    obtain ⟨cs, hown, _⟩ := h.lst.row
    exact hown.lt g ((own_le R i c).trans e)
  have hz6 := h6.size
  have hzz := hb6.size
  obtain ⟨A', c', w', hr, hR, hb, hst, hS⟩ := h6.lst.app (k := k) hz6 hi (TmC.mono (fun g hg => ⟨.inr (by have hg : wx.heap.size ≤ g := hg; omega), fun e => by have := hlt g e.symm; have hg : wx.heap.size ≤ g := hg; omega⟩) _ _ _ _ _ (TmC.below (below_new _ _) _ _ _ _ _ hk)) w5.heap.size 1 _ _ (heap_new_ _ _)
  have hbox := (hb.block w.heap.size (by omega)).trans h6.box
  have hres := (hb.block (w.heap.size + 1) (by omega)).trans h6.res
  have htk : ks.take i ++ [k] = ks.take (i + 1) := by
    obtain ⟨hh, rfl⟩ := List.getElem?_eq_some_iff.1 hki
    rw [List.take_succ_eq_append_getElem hh]
  rw [htk] at hR
  refine ⟨A', c', w', hr, by rw [Lib.cell_of_heap hbox]; rfl, Lib.frozen_of_heap hbox _, CI.stored (h6.bel.trans (hb.mono (by omega))) hbox hres (bys_stays hst h6.data h6.far) (fun hl g off sp e => hS g (h6.far hl g off sp e) ?_) hR⟩
  obtain ⟨b', off', e', hb', _⟩ := h6.data.2.2 hl
  rw [e'] at e; cases e; exact hb'
/-- The whole copy. -/
theorem CI.fin {w : World} {o m : Int} {d : List Int} {A : Option Addr} {la ca : Nat} {ks : List Tm} {i : Nat} {R : Option Addr} {c : Nat} {wx : World} (h : CI w o m d A la ca ks i R c wx) (ho : I64 o) (hm : I64 m) (hlc : la ≤ ca) (hcm : ca ≤ maxLen) (hn : ks.take i = ks) : TmC (fun g => Out No w g) wx (.mk o m d ks) (.int .i64 o) (.int .i64 m) (.slice A la ca) (.slice R i c) := by
  obtain ⟨cs, hown, hqs⟩ := h.lst.row
  obtain ⟨A', c', e, h1, h2, h3⟩ := own4_shape hown
  cases e
  have hlen := h.lst.len
  rw [hn] at hqs hlen
  subst hlen
  unfold TmC
  refine ⟨rfl, ho, rfl, hm, ⟨A, la, ca, rfl, hlc, hcm, h.data, fun hl g off sp e => (h.far hl g off sp e).1⟩, R, c, rfl, h1, h2, fun hpos => ?_⟩
  obtain ⟨g, rfl, hg1, hg2⟩ := h3 hpos
  refine ⟨g, 0, rfl, hg2, .inr hg1, Quads.kids (hqs.mono fun g hg => hg.1) fun j u hu => ?_⟩
  have hj := (List.getElem?_eq_some_iff.1 hu).1
  rw [Nat.zero_add, hown.cellAt j (by rw [← hown.1]; exact hj)]
  exact hu
end Go.Proofs.Ytoaacacbjimloaa.tmc
