/- Norm's worlds: what a round keeps. -/
import Derived.Test.YtlnclgpbobaedaaDoorTmCl
namespace Go.Proofs.YtlnclgpbobaedaaDoor.tmc
open Go.RowKit Go.Proofs.YtlnclgpbobaedaaDoor.tlvc
set_option linter.unusedVariables false
theorem set_heap (w : World) (g i : Nat) (v : Value) (cs : Array Value) (T : TypeId) (fr : Nat × Nat) (h : w.heap[g]? = some (.cells cs T fr)) : (w.setCell ⟨g, i, none⟩ v).heap[g]? = some (.cells (cs.setIfInBounds i v) T fr) := by
  simp [World.setCell, Array.getElem?_modify, h]
theorem set_heap_other (w : World) (g i k : Nat) (v : Value) (h : k ≠ g) : (w.setCell ⟨g, i, none⟩ v).heap[k]? = w.heap[k]? := by
  simp [World.setCell, Array.getElem?_modify, h.symm]
theorem set_size (w : World) (a : Addr) (v : Value) : (w.setCell a v).heap.size = w.heap.size := by simp [World.setCell]
theorem cell_same {w w' : World} {p : Addr} (h : w'.heap[p.block]? = w.heap[p.block]?) : w'.cell? p = w.cell? p := by unfold World.cell?; rw [h]
/-- Four cells of a block, one behind the other. -/
def set4 (W : World) (g b : Nat) (y0 y1 y2 y3 : Value) : World := (((W.setCell ⟨g, b, none⟩ y0).setCell ⟨g, b + 1, none⟩ y1).setCell ⟨g, b + 2, none⟩ y2).setCell ⟨g, b + 3, none⟩ y3
theorem set4_size (W : World) (g b : Nat) (y0 y1 y2 y3 : Value) : (set4 W g b y0 y1 y2 y3).heap.size = W.heap.size := by unfold set4; rw [set_size, set_size, set_size, set_size]
theorem set4_other (W : World) (g b k : Nat) (y0 y1 y2 y3 : Value) (h : k ≠ g) : (set4 W g b y0 y1 y2 y3).heap[k]? = W.heap[k]? := by
  unfold set4; rw [set_heap_other _ _ _ _ _ h, set_heap_other _ _ _ _ _ h, set_heap_other _ _ _ _ _ h, set_heap_other _ _ _ _ _ h]
theorem set4_below (W : World) (B g b : Nat) (y0 y1 y2 y3 : Value) (hB : B ≤ g) : Below B W (set4 W g b y0 y1 y2 y3) :=
  ((((Below.refl B W).setCell (show B ≤ (⟨g, b, none⟩ : Addr).block from hB) y0).setCell (show B ≤ (⟨g, b + 1, none⟩ : Addr).block from hB) y1).setCell (show B ≤ (⟨g, b + 2, none⟩ : Addr).block from hB) y2).setCell (show B ≤ (⟨g, b + 3, none⟩ : Addr).block from hB) y3
theorem set4_box {W : World} {g : Nat} {x0 x1 x2 x3 : Value} {T : TypeId} {fr : Nat × Nat} (h : W.heap[g]? = some (.cells #[x0, x1, x2, x3] T fr)) (y0 y1 y2 y3 : Value) : (set4 W g 0 y0 y1 y2 y3).heap[g]? = some (.cells #[y0, y1, y2, y3] T fr) := by
  unfold set4
  exact set_heap _ _ 3 y3 _ _ _ (set_heap _ _ 2 y2 _ _ _ (set_heap _ _ 1 y1 _ _ _ (set_heap _ _ 0 y0 _ _ _ h)))
theorem set4_grown (W : World) (g b : Nat) (y0 y1 y2 y3 : Value) : W.grownBy (set4 W g b y0 y1 y2 y3) (some g) :=
  ⟨rfl, rfl, rfl, by rw [set4_size]; exact Nat.le_refl _, fun k _ hk => set4_other W g b k y0 y1 y2 y3 (fun e => hk (by rw [e]))⟩
theorem set4_list (a : List Value) (c0 c1 c2 c3 y0 y1 y2 y3 : Value) (r : List Value) : ((((a ++ c0 :: c1 :: c2 :: c3 :: r).set a.length y0).set (a.length + 1) y1).set (a.length + 2) y2).set (a.length + 3) y3 = (a ++ [y0, y1, y2, y3]) ++ r := by
  rw [List.set_append_right _ _ (Nat.le_refl _), List.set_append_right _ _ (by omega), List.set_append_right _ _ (by omega), List.set_append_right _ _ (by omega)]
  simp
theorem set4_own {W : World} {base : Nat} {e : TypeId} {g n c : Nat} {a r : List Value} {c0 c1 c2 c3 : Value} (h : W.ownsRow base e 4 (.slice (some ⟨g, 0, none⟩) n c) n (a ++ c0 :: c1 :: c2 :: c3 :: r)) (y0 y1 y2 y3 : Value) :
    (set4 W g a.length y0 y1 y2 y3).ownsRow base e 4 (.slice (some ⟨g, 0, none⟩) n c) n ((a ++ [y0, y1, y2, y3]) ++ r) := by
  have h1 := (h.stored a.length y0).1
  have h2 := (h1.stored (a.length + 1) y1).1
  have h3 := (h2.stored (a.length + 2) y2).1
  have h4 := (h3.stored (a.length + 3) y3).1
  rw [set4_list] at h4
  exact h4
/-- The blocks that are the call's own, the list of kids aside. -/
def Fr (w : World) (K : Option Addr) (g : Nat) : Prop := w.heap.size + 2 ≤ g ∧ some g ≠ (Value.slice K 0 0).ownBlock
theorem own_le (K : Option Addr) (n c : Nat) : (Value.slice K n c).ownBlock = (Value.slice K 0 0).ownBlock := by cases K <;> rfl
structure NInv (w : World) (C : Nat → Prop) (o m : Int) (d : List Int) (n : Nat) (A : Option Addr) (la c : Nat) (K : Option Addr) (ck : Nat) (ts us : List Tm) (cs1 cs2 : List Value) (wx : World) : Prop where
  bel : Below w.heap.size w wx
  box : wx.heap[w.heap.size]? = some (.cells #[.int .i64 o, .int .i64 m, .slice A la c, .slice K n ck] 26)
  res : wx.heap[w.heap.size + 1]? = some (.cells #[.int .i64 0, .int .i64 0, .slice none 0 0, .slice none 0 0] 26)
  data : Bys wx A la d
  far : 0 < la → ∀ g off sp, A = some ⟨g, off, sp⟩ → Fr w K g
  row : wx.ownsRow (w.heap.size + 2) 26 4 (.slice K n ck) n (cs1 ++ cs2)
  q1 : Quads (Fr w K) wx ts cs1
  q2 : Quads C w us cs2
theorem NInv.own_lt {w : World} {C : Nat → Prop} {o m : Int} {d : List Int} {n la c ck : Nat} {A K : Option Addr} {ts us : List Tm} {cs1 cs2 : List Value} {wx : World} (h : NInv w C o m d n A la c K ck ts us cs1 cs2 wx) {g : Nat} (e : (Value.slice K 0 0).ownBlock = some g) : w.heap.size + 2 ≤ g ∧ g < wx.heap.size := h.row.lt g ((own_le K n ck).trans e)
theorem NInv.size {w : World} {C : Nat → Prop} {o m : Int} {d : List Int} {n la c ck : Nat} {A K : Option Addr} {ts us : List Tm} {cs1 cs2 : List Value} {wx : World} (h : NInv w C o m d n A la c K ck ts us cs1 cs2 wx) : w.heap.size + 2 ≤ wx.heap.size := (Array.getElem?_eq_some_iff.1 h.res).1
theorem NInv.cells {w : World} {C : Nat → Prop} {o m : Int} {d : List Int} {n la c ck : Nat} {A K : Option Addr} {ts us : List Tm} {cs1 cs2 : List Value} {wx : World} (h : NInv w C o m d n A la c K ck ts us cs1 cs2 wx) : wx.cell? ⟨w.heap.size, 0, none⟩ = some (.int .i64 o) ∧ wx.cell? ⟨w.heap.size, 1, none⟩ = some (.int .i64 m) ∧ wx.cell? ⟨w.heap.size, 2, none⟩ = some (.slice A la c) ∧ wx.cell? ⟨w.heap.size, 3, none⟩ = some (.slice K n ck) :=
  ⟨by rw [Lib.cell_of_heap h.box]; rfl, by rw [Lib.cell_of_heap h.box]; rfl, by rw [Lib.cell_of_heap h.box]; rfl, by rw [Lib.cell_of_heap h.box]; rfl⟩
theorem NInv.below {w : World} {C : Nat → Prop} {o m : Int} {d : List Int} {n la c ck : Nat} {A K : Option Addr} {ts us : List Tm} {cs1 cs2 : List Value} {wx wy : World} (h : NInv w C o m d n A la c K ck ts us cs1 cs2 wx) (hb : Below wx.heap.size wx wy) : NInv w C o m d n A la c K ck ts us cs1 cs2 wy :=
  have z := h.size
  ⟨h.bel.trans (hb.mono h.bel.size), (hb.block _ (by omega)).trans h.box, (hb.block _ (by omega)).trans h.res, h.data.below hb, h.far, own_below h.row hb, h.q1.stays (stays_below hb _), h.q2⟩
/-- One kid laid into the list. -/
theorem NInv.step {w : World} {C : Nat → Prop} {o m : Int} {d : List Int} {n la c ck g : Nat} {A : Option Addr} {ts us : List Tm} {cs1 r : List Value} {c0 c1 c2 c3 n0 n1 n2 n3 : Value} {x k : Tm} {wx w6 : World} (h : NInv w C o m d n A la c (some ⟨g, 0, none⟩) ck ts (x :: us) cs1 (c0 :: c1 :: c2 :: c3 :: r) wx)
    (hb : Below wx.heap.size wx w6) (hk : TmC (fun b => wx.heap.size ≤ b) w6 k n0 n1 n2 n3) : NInv w C o m d n A la c (some ⟨g, 0, none⟩) ck (ts ++ [k]) us (cs1 ++ [n0, n1, n2, n3]) r (set4 w6 g cs1.length n0 n1 n2 n3) := by
  have h6 := h.below hb
  have hg := h.own_lt (g := g) rfl
  have hz := h.size
  have hz6 := hb.size
  have hst : Stays (Fr w (some ⟨g, 0, none⟩)) w6 (set4 w6 g cs1.length n0 n1 n2 n3) := ⟨by rw [set4_size]; exact Nat.le_refl _, fun p hp _ => cell_same (set4_other _ _ _ _ _ _ _ _ (fun e => hp.2 (by rw [e]; rfl)))⟩
  obtain ⟨_, _, _, _, _, e, _, hr⟩ := h.q2
  cases e
  refine ⟨h6.bel.trans (set4_below _ _ _ _ _ _ _ _ (by omega)), (set4_other _ _ _ _ _ _ _ _ (by omega)).trans h6.box, (set4_other _ _ _ _ _ _ _ _ (by omega)).trans h6.res, bys_stays hst h6.data h.far, h.far, set4_own h6.row n0 n1 n2 n3, ?_, hr⟩
  refine Quads.snoc (TmC.stays hst _ _ _ _ _ (TmC.mono (fun b hb => ⟨?_, ?_⟩) _ _ _ _ _ hk)) (h6.q1.stays hst)
  · have hb : wx.heap.size ≤ b := hb; omega
  · intro e
    have e : b = g := Option.some.inj e
    have hb : wx.heap.size ≤ b := hb
    omega
/-- The list put in order. -/
theorem NInv.sorted {w : World} {C : Nat → Prop} {o m : Int} {d : List Int} {n la c ck g : Nat} {A : Option Addr} {ts ts' us : List Tm} {cs1 cs' : List Value} {wx w8 : World} (h : NInv w C o m d n A la c (some ⟨g, 0, none⟩) ck ts [] cs1 [] wx)
    (hq : Quads (Fr w (some ⟨g, 0, none⟩)) w8 ts' cs') (hown : w8.ownsRow (w.heap.size + 2) 26 4 (.slice (some ⟨g, 0, none⟩) n ck) n cs') (hgr : wx.grownBy w8 (some g)) : NInv w C o m d n A la c (some ⟨g, 0, none⟩) ck ts' [] cs' [] w8 := by
  have hg := h.own_lt (g := g) rfl
  have hz := h.size
  have ne : ∀ b, b ≠ g → some b ≠ some g := fun b hb e => hb (Option.some.inj e)
  have hst : Stays (Fr w (some ⟨g, 0, none⟩)) wx w8 := ⟨hgr.size, fun p hp hl => cell_same (hgr.block _ hl hp.2)⟩
  exact ⟨h.bel.grown hgr h.bel.size fun j hj => by cases hj; omega, (hgr.block _ (by omega) (ne _ (by omega))).trans h.box, (hgr.block _ (by omega) (ne _ (by omega))).trans h.res, bys_stays hst h.data h.far, h.far, by rw [List.append_nil]; exact hown, hq, rfl⟩
/-- The term, laid where the answer stands. -/
theorem NInv.fin {w : World} {C : Nat → Prop} {o m : Int} {d : List Int} {n la c ck : Nat} {A K : Option Addr} {ts us : List Tm} {cs1 : List Value} {wx : World} (h : NInv w C o m d n A la c K ck ts [] cs1 [] wx) (hn : ts.length = n) (ho : I64 o) (hm : I64 m) (hlc : la ≤ c) (hcm : c ≤ maxLen) :
    Below w.heap.size w (set4 wx (w.heap.size + 1) 0 (.int .i64 o) (.int .i64 m) (.slice A la c) (.slice K n ck)) ∧ TmV (fun b => w.heap.size ≤ b) (set4 wx (w.heap.size + 1) 0 (.int .i64 o) (.int .i64 m) (.slice A la c) (.slice K n ck)) (.mk o m d ts) (.agg #[.int .i64 o, .int .i64 m, .slice A la c, .slice K n ck]) := by
  have hz := h.size
  have hst : Stays (fun b => w.heap.size + 2 ≤ b) wx (set4 wx (w.heap.size + 1) 0 (.int .i64 o) (.int .i64 m) (.slice A la c) (.slice K n ck)) := ⟨by rw [set4_size]; exact Nat.le_refl _, fun p hp _ => cell_same (set4_other _ _ _ _ _ _ _ _ (by have hp : w.heap.size + 2 ≤ p.block := hp; omega))⟩
  refine ⟨h.bel.trans (set4_below _ _ _ _ _ _ _ _ (by omega)), _, _, _, _, rfl, ?_⟩
  have hrow := h.row
  rw [List.append_nil] at hrow
  unfold TmC
  refine ⟨rfl, ho, rfl, hm, ⟨A, la, c, rfl, hlc, hcm, bys_stays hst h.data (fun hl g off sp e => (h.far hl g off sp e).1), fun hl g off sp e => by have := (h.far hl g off sp e).1; show w.heap.size ≤ g; omega⟩, ?_⟩
  subst hn
  obtain ⟨K', ck', e, h1, h2, h3⟩ := own4_shape hrow
  cases e
  refine ⟨K, ck, rfl, h1, h2, fun hpos => ?_⟩
  obtain ⟨g, rfl, hg1, hg2⟩ := h3 hpos
  refine ⟨g, 0, rfl, by rw [set4_size]; exact hg2, by show w.heap.size ≤ g; omega, ?_⟩
  have hq := (h.q1.mono (S' := fun b => w.heap.size + 2 ≤ b) fun b hb => hb.1).stays hst
  refine Quads.kids (hq.mono fun b hb => by have hb : w.heap.size + 2 ≤ b := hb; show w.heap.size ≤ b; omega) fun j u hu => ?_
  rw [hst.2 ⟨g, 0 + j, none⟩ hg1 hg2, Nat.zero_add]
  have hj := (List.getElem?_eq_some_iff.1 hu).1
  rw [hrow.cellAt j (by rw [← hrow.1]; exact hj)]
  exact hu
/-- At the start: both lists are new. -/
theorem NInv.start {w W0 w1 w3 : World} {C : Nat → Prop} {o m : Int} {d : List Int} {ks : List Tm} {n la c ck : Nat} {A K : Option Addr} {x2 x3 : Value} {cs : List Value} (hb0 : Below w.heap.size w W0) (hz0 : W0.heap.size = w.heap.size + 2)
    (p0 : W0.heap[w.heap.size]? = some (.cells #[.int .i64 o, .int .i64 m, x2, x3] 26)) (p1 : W0.heap[w.heap.size + 1]? = some (.cells #[.int .i64 0, .int .i64 0, .slice none 0 0, .slice none 0 0] 26))
    (hb1 : Below W0.heap.size W0 w1) (hby : Bys w1 A la d) (hfar : ∀ g off sp, A = some ⟨g, off, sp⟩ → W0.heap.size ≤ g) (hb3 : Below w1.heap.size (w1.setCell ⟨w.heap.size, 2, none⟩ (.slice A la c)) w3) (hown : w3.ownsRow w1.heap.size 26 4 (.slice K n ck) n cs) (hq : Quads C w ks cs) :
    NInv w C o m d n A la c K ck [] ks [] cs (w3.setCell ⟨w.heap.size, 3, none⟩ (.slice K n ck)) := by
  have z1 := hb1.size
  have z3 := hb3.size
  rw [set_size] at z3
  have ha : 0 < la → ∀ g off sp, A = some ⟨g, off, sp⟩ → g < w1.heap.size := fun hl g off sp e => by
    obtain ⟨b', off', e', hb', _⟩ := hby.2.2 hl
    rw [e'] at e; cases e; exact hb'
  have k3 : ∀ b, b ≠ w.heap.size → b < w1.heap.size → (w3.setCell ⟨w.heap.size, 3, none⟩ (.slice K n ck)).heap[b]? = w1.heap[b]? := fun b hb hl => by
    rw [set_heap_other _ _ _ _ _ hb, hb3.block b hl, set_heap_other _ _ _ _ _ hb]
  have hst : Stays (fun b => w.heap.size + 2 ≤ b) w1 (w3.setCell ⟨w.heap.size, 3, none⟩ (.slice K n ck)) := ⟨by rw [set_size]; omega, fun p hp hl => cell_same (k3 _ (by have hp : w.heap.size + 2 ≤ p.block := hp; omega) hl)⟩
  have hB : Below w.heap.size w (w3.setCell ⟨w.heap.size, 3, none⟩ (.slice K n ck)) := by
    refine Below.setCell ?_ (show w.heap.size ≤ (⟨w.heap.size, 3, none⟩ : Addr).block from Nat.le_refl _) _
    exact (Below.setCell (hb0.trans (hb1.mono hb0.size)) (show w.heap.size ≤ (⟨w.heap.size, 2, none⟩ : Addr).block from Nat.le_refl _) _).trans (hb3.mono (by omega))
  refine ⟨hB, ?_, ?_, bys_stays hst hby (fun hl g off sp e => by have := hfar g off sp e; show w.heap.size + 2 ≤ g; omega), fun hl g off sp e => ⟨by have := hfar g off sp e; omega, fun e2 => ?_⟩, ?_, rfl, hq⟩
  · have e1 := set_heap w1 w.heap.size 2 (.slice A la c) _ _ _ ((hb1.block _ (by omega)).trans p0)
    exact set_heap w3 w.heap.size 3 (.slice K n ck) _ _ _ ((hb3.block _ (by omega)).trans e1)
  · exact (k3 _ (by omega) (by omega)).trans ((hb1.block _ (by omega)).trans p1)
  · have h1 := ha hl g off sp e
    have h2 := (hown.lt g ((own_le K n ck).trans e2.symm)).1
    omega
  · rw [List.nil_append]
    have hown2 := own_base hown (show w.heap.size + 2 ≤ w1.heap.size by omega)
    refine ⟨hown2.1, ?_⟩
    rcases hown2.2 with h | ⟨g, cap, cur, e, h1, h2, h3⟩
    · exact .inl h
    · exact .inr ⟨g, cap, cur, e, h1, (set_heap_other _ _ _ _ _ (by omega)).trans h2, h3⟩
end Go.Proofs.YtlnclgpbobaedaaDoor.tmc
