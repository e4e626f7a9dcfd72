/- Lists of the call's own that grow by terms. -/
import Derived.Test.YtoaacacbjimloaaTmU
namespace Go.Proofs.Ytoaacacbjimloaa.tmc
open Go.RowKit Go.Proofs.Ytoaacacbjimloaa.tlvc
set_option linter.unusedVariables false
/-- What lies ahead of the call, or behind its two boxes. -/
def Out (B : Nat → Prop) (w : World) (g : Nat) : Prop := (B g ∧ g < w.heap.size) ∨ w.heap.size + 2 ≤ g
structure RNI (B : Nat → Prop) (w : World) (n : Nat) (A : Option Addr) (c : Nat) (l : List Tm) (wx : World) : Prop where
  len : l.length = n
  row : ∃ cs, wx.ownsRow (w.heap.size + 2) 26 4 (.slice A n c) n cs ∧ Quads (fun g => Out B w g ∧ some g ≠ (Value.slice A 0 0).ownBlock) wx l cs
theorem RNI.below {B : Nat → Prop} {w : World} {n c : Nat} {A : Option Addr} {l : List Tm} {wx wy : World} (h : RNI B w n A c l wx) (hb : Below wx.heap.size wx wy) : RNI B w n A c l wy := by
  obtain ⟨cs, h1, h2⟩ := h.row
  exact ⟨h.len, cs, own_below h1 hb, h2.stays (stays_below hb _)⟩
theorem RNI.start {B : Nat → Prop} {w wx : World} : RNI B w 0 none 0 [] wx := ⟨rfl, [], World.ownsRow_nil _ _ _ _, rfl⟩
theorem RNI.app {B : Nat → Prop} {w : World} {n c : Nat} {A : Option Addr} {l : List Tm} {wx : World} (h : RNI B w n A c l wx) (hz : w.heap.size + 2 ≤ wx.heap.size) (hn : n ≤ 100000) {k : Tm} {n0 n1 n2 n3 : Value} (hk : TmC (fun g => Out B w g ∧ some g ≠ (Value.slice A 0 0).ownBlock) wx k n0 n1 n2 n3)
    (g1 c1 : Nat) (T : TypeId) (fr : Nat × Nat) (hq : wx.heap[g1]? = some (.cells #[n0, n1, n2, n3] T fr)) :
    ∃ A' c' w', (Builtin.append_ #[24, 24] 24 #[.slice A n c, .slice (some ⟨g1, 0, none⟩) 1 c1]).run Try.prog wx = .ok (.slice A' (n + 1) c') w' ∧ RNI B w (n + 1) A' c' (l ++ [k]) w' ∧ Below (w.heap.size + 2) wx w' ∧ Stays (fun g => Out B w g ∧ some g ≠ (Value.slice A 0 0).ownBlock) wx w' ∧ ∀ g, (Out B w g ∧ some g ≠ (Value.slice A 0 0).ownBlock) → g < wx.heap.size → (Out B w g ∧ some g ≠ (Value.slice A' 0 0).ownBlock) := by
  obtain ⟨cs, hown, hqs⟩ := h.row
  obtain ⟨o0, o1, o2, o3⟩ := hk.one
  obtain ⟨v', w', hr, ho, hg, hob⟩ := app_terms wx (w.heap.size + 2) (.slice A n c) n cs hown ⟨g1, 0, none⟩ 1 c1 [n0, n1, n2, n3] rfl (fun u hu => by
    simp only [List.mem_cons, List.not_mem_nil, or_false] at hu
    rcases hu with rfl | rfl | rfl | rfl <;> assumption) (fun j u hu => by
    rw [Addr.add_lit, Nat.zero_add, Lib.cell_of_heap hq, ← hu]
    simp) (by omega) hz
  obtain ⟨A', c', rfl, _⟩ := own4_shape ho
  have hst : Stays (fun g => Out B w g ∧ some g ≠ (Value.slice A 0 0).ownBlock) wx w' := ⟨hg.size, fun p hp hl => cell_same (hg.block _ hl (fun e => hp.2 (by rw [← own_le A n c]; exact e)))⟩
  have hS : ∀ g, (Out B w g ∧ some g ≠ (Value.slice A 0 0).ownBlock) → g < wx.heap.size → (Out B w g ∧ some g ≠ (Value.slice A' 0 0).ownBlock) := fun g hg hl => ⟨hg.1, fun e => by
    rw [← own_le A' (n + 1) c'] at e
    rcases hob with hs | ⟨g', hs, hge⟩
    · exact hg.2 (by rw [← own_le A n c, ← hs]; exact e)
    · rw [hs] at e; cases e; omega⟩
  refine ⟨A', c', w', hr, ⟨by rw [List.length_append, h.len]; rfl, cs ++ [n0, n1, n2, n3], ho, Quads.snoc (TmC.below2 hst hk hS) (Quads.below2 hst hS hqs)⟩, (Below.refl _ _).grown hg hz fun j hj => (hown.lt j hj).1, hst, hS⟩
/-- What a put leaves is such a list. -/
theorem RNI.put {B : Nat → Prop} {w : World} {n c : Nat} {A : Option Addr} {l ps : List Tm} {wx w' : World} {cs' : List Value} (hz : w.heap.size + 2 ≤ wx.heap.size) (hl : ps.length = n) (hown : w'.ownsRow wx.heap.size 26 4 (.slice A n c) n cs') (hq : Quads (fun g => Out B w g ∧ g < wx.heap.size) w' ps cs') : RNI B w n A c ps w' :=
  ⟨hl, cs', own_base hown hz, hq.mono fun g hg => ⟨hg.1, fun e => by rw [← own_le A n c] at e; have := (hown.lt g e.symm).1; have := hg.2; omega⟩⟩
/-- The list, as put takes it. -/
theorem RNI.tms {B : Nat → Prop} {w : World} {n c : Nat} {A : Option Addr} {l : List Tm} {wx : World} (h : RNI B w n A c l wx) : n ≤ c ∧ c ≤ maxLen ∧ TmsB (fun g => Out B w g ∧ g < wx.heap.size) wx A l := by
  obtain ⟨cs, hown, hqs⟩ := h.row
  obtain ⟨A', c', e, h1, h2, h3⟩ := own4_shape hown
  cases e
  refine ⟨h1, h2, fun hpos => ?_⟩
  obtain ⟨g, rfl, hg1, hg2⟩ := h3 (by rw [← h.len]; exact hpos)
  refine ⟨g, 0, rfl, hg2, ⟨.inr hg1, hg2⟩, ?_⟩
  have hk := KidsC.bound _ _ (Quads.kids (g := g) (off := 0) hqs fun j u hu => by
    have hj := (List.getElem?_eq_some_iff.1 hu).1
    rw [Nat.zero_add, hown.cellAt j (by rw [← hown.1]; exact hj)]
    exact hu)
  exact KidsC.mono (fun g hg => ⟨hg.1.1, hg.2⟩) _ _ hk
/-- The whole term. -/
theorem RNI.fin {w : World} {n c : Nat} {A : Option Addr} {l : List Tm} {wx : World} {o m : Int} {d : List Int} {Ad : Option Addr} {la ca : Nat} {B : Nat → Prop} (h : RNI B w n A c l wx) (hb : Below w.heap.size w wx) (ho : I64 o) (hm : I64 m) (hd : Bys wx Ad la d) (hlc : la ≤ ca) (hcm : ca ≤ maxLen) (hB : 0 < la → ∀ g off sp, Ad = some ⟨g, off, sp⟩ → Out B w g)
    {b0 b1 b2 b3 r0 r1 r2 r3 : Value} {T T2 : TypeId} {fr fr2 : Nat × Nat} (hbox : wx.heap[w.heap.size]? = some (.cells #[b0, b1, b2, b3] T fr)) (hres : wx.heap[w.heap.size + 1]? = some (.cells #[r0, r1, r2, r3] T2 fr2)) :
    TmC (fun g => Out B w g) (wx.setCell ⟨w.heap.size, 3, none⟩ (.slice A n c)) (.mk o m d l) (.int .i64 o) (.int .i64 m) (.slice Ad la ca) (.slice A n c) ∧ (wx.setCell ⟨w.heap.size, 3, none⟩ (.slice A n c)).heap[w.heap.size]? = some (.cells #[b0, b1, b2, .slice A n c] T fr) ∧ (wx.setCell ⟨w.heap.size, 3, none⟩ (.slice A n c)).heap[w.heap.size + 1]? = some (.cells #[r0, r1, r2, r3] T2 fr2) ∧ Below w.heap.size w (wx.setCell ⟨w.heap.size, 3, none⟩ (.slice A n c)) := by
  have hst : Stays (fun g => Out B w g) wx (wx.setCell ⟨w.heap.size, 3, none⟩ (.slice A n c)) := ⟨by rw [set_size]; exact Nat.le_refl _, fun p hp hl => cell_same (set_heap_other _ _ _ _ _ (fun e => by unfold Out at hp; omega))⟩
  obtain ⟨cs, hown, hqs⟩ := h.row
  obtain ⟨A', c', e, h1, h2, h3⟩ := own4_shape hown
  cases e
  refine ⟨?_, set_heap _ _ 3 _ _ _ _ hbox, (set_heap_other _ _ _ _ _ (by omega)).trans hres, hb.setCell (Nat.le_refl _) _⟩
  refine TmC.stays hst _ _ _ _ _ ?_
  obtain ⟨rfl⟩ := h.len
  unfold TmC
  refine ⟨rfl, ho, rfl, hm, ⟨Ad, la, ca, rfl, hlc, hcm, hd, fun hl g off sp e => hB hl g off sp e⟩, A, c, rfl, h1, h2, fun hpos => ?_⟩
  obtain ⟨g, rfl, hg1, hg2⟩ := h3 hpos
  refine ⟨g, 0, rfl, hg2, .inr hg1, Quads.kids (hqs.mono fun g hg => hg.1) fun j u hu => ?_⟩
  have hj := (List.getElem?_eq_some_iff.1 hu).1
  rw [Nat.zero_add, hown.cellAt j (by rw [← hown.1]; exact hj)]
  exact hu
end Go.Proofs.Ytoaacacbjimloaa.tmc
