/- Lists of the call's own that grow by terms. The document's Norm. A copy of a term in work. Copied: a term on its own. -/
import Derived.Test.YtfmdmahlljbbmaaDoorTi
import Derived.Deep.RegionLaw
namespace Go.Proofs.YtfmdmahlljbbmaaDoor.tmc
open Go.RowKit Go.Proofs.YtfmdmahlljbbmaaDoor.tlvc
set_option linter.unusedVariables false
/-- What lies ahead of the call, or behind its two boxes. -/
def Out (B : Nat → Prop) (w : World) (g : Nat) : Prop := (B g ∧ g < w.heap.size) ∨ w.heap.size + 2 ≤ g
structure RNI (B : Nat → Prop) (w : World) (n : Nat) (A : Option Addr) (c : Nat) (l : List Tm) (wx : World) : Prop where
  len : l.length = n
  row : ∃ cs, wx.ownsRow (w.heap.size + 2) 26 4 (.slice A n c) n cs ∧ Quads (fun g => Out B w g ∧ some g ≠ (Value.slice A 0 0).ownBlock) wx l cs
theorem RNI.below {B : Nat → Prop} {w : World} {n c : Nat} {A : Option Addr} {l : List Tm} {wx wy : World} (h : RNI B w n A c l wx) (hb : Below wx.heap.size wx wy) : RNI B w n A c l wy := by
  obtain ⟨cs, h1, h2⟩ := h.row
  exact ⟨h.len, cs, own_below h1 hb, h2.stays (stays_below hb _)⟩
theorem RNI.start {B : Nat → Prop} {w wx : World} : RNI B w 0 none 0 [] wx := ⟨rfl, [], World.ownsRow_nil _ _ _ _, rfl⟩
theorem RNI.app2 {B : Nat → Prop} {w : World} {n c : Nat} {A : Option Addr} {l : List Tm} {wx : World} (h : RNI B w n A c l wx) (hz : w.heap.size + 2 ≤ wx.heap.size) (hn : n ≤ 100000) {k : Tm} {n0 n1 n2 n3 : Value} (hk : TmC (fun g => Out B w g ∧ some g ≠ (Value.slice A 0 0).ownBlock) wx k n0 n1 n2 n3)
    (g1 c1 : Nat) (T : TypeId) (fr : Nat × Nat) (hq : wx.heap[g1]? = some (.cells #[n0, n1, n2, n3] T fr)) :
    ∃ A' c' w', (Builtin.append_ #[22, 22] 22 #[.slice A n c, .slice (some ⟨g1, 0, none⟩) 1 c1]).run Tryd.prog wx = .ok (.slice A' (n + 1) c') w' ∧ RNI B w (n + 1) A' c' (l ++ [k]) w' ∧ Below (w.heap.size + 2) wx w' ∧ Stays (fun g => Out B w g ∧ some g ≠ (Value.slice A 0 0).ownBlock) wx w' ∧ (∀ g, (Out B w g ∧ some g ≠ (Value.slice A 0 0).ownBlock) → g < wx.heap.size → (Out B w g ∧ some g ≠ (Value.slice A' 0 0).ownBlock)) ∧ ∀ g, g < wx.heap.size → some g ≠ (Value.slice A 0 0).ownBlock → w'.heap[g]? = wx.heap[g]? := by
  obtain ⟨cs, hown, hqs⟩ := h.row
  obtain ⟨o0, o1, o2, o3⟩ := hk.one
  obtain ⟨v', w', hr, ho, hg, hob⟩ := app_terms wx (w.heap.size + 2) (.slice A n c) n cs hown ⟨g1, 0, none⟩ 1 c1 [n0, n1, n2, n3] rfl (fun u hu => by
    simp only [List.mem_cons, List.not_mem_nil, or_false] at hu
    rcases hu with rfl | rfl | rfl | rfl <;> assumption) (fun j u hu => by
    rw [Addr.add_lit, Nat.zero_add, Lib.cell_of_heap hq, ← hu]
    simp) (by omega) hz
  obtain ⟨A', c', rfl, _⟩ := own4_shape ho
  have hst : Stays (fun g => Out B w g ∧ some g ≠ (Value.slice A 0 0).ownBlock) wx w' := ⟨hg.size, fun p hp hl => cell_same (hg.block _ hl (fun e => hp.2 (by rw [← own_le A n c]; exact e)))⟩
  have hS : ∀ g, (Out B w g ∧ some g ≠ (Value.slice A 0 0).ownBlock) → g < wx.heap.size → (Out B w g ∧ some g ≠ (Value.slice A' 0 0).ownBlock) := fun g hg hl => ⟨hg.1, fun e => by
    rw [← own_le A' (n + 1) c'] at e
    rcases hob with hs | ⟨g', hs, hge⟩
    · exact hg.2 (by rw [← own_le A n c, ← hs]; exact e)
    · rw [hs] at e; cases e; omega⟩
  refine ⟨A', c', w', hr, ⟨by rw [List.length_append, h.len]; rfl, cs ++ [n0, n1, n2, n3], ho, Quads.snoc (TmC.below2 hst hk hS) (Quads.below2 hst hS hqs)⟩, (Below.refl _ _).grown hg hz fun j hj => (hown.lt j hj).1, hst, hS, fun g hl hne => hg.block _ hl (fun e => hne (by rw [← own_le A n c]; exact e))⟩
theorem RNI.app {B : Nat → Prop} {w : World} {n c : Nat} {A : Option Addr} {l : List Tm} {wx : World} (h : RNI B w n A c l wx) (hz : w.heap.size + 2 ≤ wx.heap.size) (hn : n ≤ 100000) {k : Tm} {n0 n1 n2 n3 : Value} (hk : TmC (fun g => Out B w g ∧ some g ≠ (Value.slice A 0 0).ownBlock) wx k n0 n1 n2 n3)
    (g1 c1 : Nat) (T : TypeId) (fr : Nat × Nat) (hq : wx.heap[g1]? = some (.cells #[n0, n1, n2, n3] T fr)) :
    ∃ A' c' w', (Builtin.append_ #[22, 22] 22 #[.slice A n c, .slice (some ⟨g1, 0, none⟩) 1 c1]).run Tryd.prog wx = .ok (.slice A' (n + 1) c') w' ∧ RNI B w (n + 1) A' c' (l ++ [k]) w' ∧ Below (w.heap.size + 2) wx w' ∧ Stays (fun g => Out B w g ∧ some g ≠ (Value.slice A 0 0).ownBlock) wx w' ∧ ∀ g, (Out B w g ∧ some g ≠ (Value.slice A 0 0).ownBlock) → g < wx.heap.size → (Out B w g ∧ some g ≠ (Value.slice A' 0 0).ownBlock) :=
  (h.app2 hz hn hk g1 c1 T fr hq).elim fun A' h => h.elim fun c' h => h.elim fun w' h => ⟨A', c', w', h.1, h.2.1, h.2.2.1, h.2.2.2.1, h.2.2.2.2.1⟩
/-- What a put leaves is such a list. -/
theorem RNI.put {B : Nat → Prop} {w : World} {n c : Nat} {A : Option Addr} {l ps : List Tm} {wx w' : World} {cs' : List Value} (hz : w.heap.size + 2 ≤ wx.heap.size) (hl : ps.length = n) (hown : w'.ownsRow wx.heap.size 26 4 (.slice A n c) n cs') (hq : Quads (fun g => Out B w g ∧ g < wx.heap.size) w' ps cs') : RNI B w n A c ps w' :=
  ⟨hl, cs', own_base hown hz, hq.mono fun g hg => ⟨hg.1, fun e => by rw [← own_le A n c] at e; have := (hown.lt g e.symm).1; have := hg.2; omega⟩⟩
/-- The list, as put takes it. -/
theorem RNI.tms {B : Nat → Prop} {w : World} {n c : Nat} {A : Option Addr} {l : List Tm} {wx : World} (h : RNI B w n A c l wx) : n ≤ c ∧ c ≤ maxLen ∧ TmsB (fun g => Out B w g ∧ g < wx.heap.size) wx A l := by
  obtain ⟨cs, hown, hqs⟩ := h.row
  obtain ⟨A', c', e, h1, h2, h3⟩ := own4_shape hown
  cases e
  refine ⟨h1, h2, fun hpos => ?_⟩
  obtain ⟨g, rfl, hg1, hg2⟩ := h3 (by rw [← h.len]; exact hpos)
  refine ⟨g, 0, rfl, hg2, ⟨.inr hg1, hg2⟩, ?_⟩
  have hk := KidsC.bound _ _ (Quads.kids (g := g) (off := 0) hqs fun j u hu => by
    have hj := (List.getElem?_eq_some_iff.1 hu).1
    rw [Nat.zero_add, hown.cellAt j (by rw [← hown.1]; exact hj)]
    exact hu)
  exact KidsC.mono (fun g hg => ⟨hg.1.1, hg.2⟩) _ _ hk
/-- The whole term. -/
theorem RNI.fin {w : World} {n c : Nat} {A : Option Addr} {l : List Tm} {wx : World} {o m : Int} {d : List Int} {Ad : Option Addr} {la ca : Nat} {B : Nat → Prop} (h : RNI B w n A c l wx) (hb : Below w.heap.size w wx) (ho : I64 o) (hm : I64 m) (hd : Bys wx Ad la d) (hlc : la ≤ ca) (hcm : ca ≤ maxLen) (hB : 0 < la → ∀ g off sp, Ad = some ⟨g, off, sp⟩ → Out B w g)
    {b0 b1 b2 b3 r0 r1 r2 r3 : Value} {T T2 : TypeId} {fr fr2 : Nat × Nat} (hbox : wx.heap[w.heap.size]? = some (.cells #[b0, b1, b2, b3] T fr)) (hres : wx.heap[w.heap.size + 1]? = some (.cells #[r0, r1, r2, r3] T2 fr2)) :
    TmC (fun g => Out B w g) (wx.setCell ⟨w.heap.size, 3, none⟩ (.slice A n c)) (.mk o m d l) (.int .i64 o) (.int .i64 m) (.slice Ad la ca) (.slice A n c) ∧ (wx.setCell ⟨w.heap.size, 3, none⟩ (.slice A n c)).heap[w.heap.size]? = some (.cells #[b0, b1, b2, .slice A n c] T fr) ∧ (wx.setCell ⟨w.heap.size, 3, none⟩ (.slice A n c)).heap[w.heap.size + 1]? = some (.cells #[r0, r1, r2, r3] T2 fr2) ∧ Below w.heap.size w (wx.setCell ⟨w.heap.size, 3, none⟩ (.slice A n c)) := by
  have hst : Stays (fun g => Out B w g) wx (wx.setCell ⟨w.heap.size, 3, none⟩ (.slice A n c)) := ⟨by rw [set_size]; exact Nat.le_refl _, fun p hp hl => cell_same (set_heap_other _ _ _ _ _ (fun e => by unfold Out at hp; omega))⟩
  obtain ⟨cs, hown, hqs⟩ := h.row
  obtain ⟨A', c', e, h1, h2, h3⟩ := own4_shape hown
  cases e
  refine ⟨?_, set_heap _ _ 3 _ _ _ _ hbox, (set_heap_other _ _ _ _ _ (by omega)).trans hres, hb.setCell (Nat.le_refl _) _⟩
  refine TmC.stays hst _ _ _ _ _ ?_
  obtain ⟨rfl⟩ := h.len
  unfold TmC
  refine ⟨rfl, ho, rfl, hm, ⟨Ad, la, ca, rfl, hlc, hcm, hd, fun hl g off sp e => hB hl g off sp e⟩, A, c, rfl, h1, h2, fun hpos => ?_⟩
  obtain ⟨g, rfl, hg1, hg2⟩ := h3 hpos
  refine ⟨g, 0, rfl, hg2, .inr hg1, Quads.kids (hqs.mono fun g hg => hg.1) fun j u hu => ?_⟩
  have hj := (List.getElem?_eq_some_iff.1 hu).1
  rw [Nat.zero_add, hown.cellAt j (by rw [← hown.1]; exact hj)]
  exact hu
end Go.Proofs.YtfmdmahlljbbmaaDoor.tmc
namespace Go.Proofs.YtfmdmahlljbbmaaDoor.tmc
open Go.RowKit Go.Proofs.YtfmdmahlljbbmaaDoor.tlvc
set_option linter.unusedVariables false
/-- The kids of a term whose powers are in order. -/
def LIf (o : Int) (l : List Tm) : List Tm := if o = 7 then sortI l else l
theorem LIf_len (o : Int) (l : List Tm) : (LIf o l).length = l.length := by unfold LIf; split; exact sortI_len l; rfl
theorem rni_zero (B : Nat → Prop) (w wx : World) (o : Int) (l : List Tm) : RNI B w 0 none 0 (LIf o (l.take 0)) wx := by
  have h : LIf o (l.take 0) = [] := by
    unfold LIf
    split <;> rfl
  rw [h]
  exact RNI.start
theorem norm_LIf (o m : Int) (d : List Int) (ks : List Tm) : normF (.mk o m d ks) = .mk o m d (LIf o (ks.map normF)) := normF_mk o m d ks
end Go.Proofs.YtfmdmahlljbbmaaDoor.tmc
namespace Go.Proofs.YtfmdmahlljbbmaaDoor.tmc
open Go.RowKit Go.Proofs.YtfmdmahlljbbmaaDoor.tlvc
set_option linter.unusedVariables false
def No (g : Nat) : Prop := False
structure CI (w : World) (o m : Int) (d : List Int) (A : Option Addr) (la ca : Nat) (ks : List Tm) (i : Nat) (R : Option Addr) (c : Nat) (wx : World) : Prop where
  bel : Below w.heap.size w wx
  box : wx.heap[w.heap.size]? = some (.cells #[.int .i64 o, .int .i64 m, .slice A la ca, .slice R i c] 26)
  res : wx.heap[w.heap.size + 1]? = some (.cells #[.int .i64 0, .int .i64 0, .slice none 0 0, .slice none 0 0] 26)
  data : Bys wx A la d
  far : 0 < la → ∀ g off sp, A = some ⟨g, off, sp⟩ → Out No w g ∧ some g ≠ (Value.slice R 0 0).ownBlock
  lst : RNI No w i R c (ks.take i) wx
  nf : NF wx A la
theorem CI.size {w : World} {o m : Int} {d : List Int} {A : Option Addr} {la ca : Nat} {ks : List Tm} {i : Nat} {R : Option Addr} {c : Nat} {wx : World} (h : CI w o m d A la ca ks i R c wx) : w.heap.size + 2 ≤ wx.heap.size := (Array.getElem?_eq_some_iff.1 h.res).1
theorem CI.below {w : World} {o m : Int} {d : List Int} {A : Option Addr} {la ca : Nat} {ks : List Tm} {i : Nat} {R : Option Addr} {c : Nat} {wx wy : World} (h : CI w o m d A la ca ks i R c wx) (hb : Below wx.heap.size wx wy) : CI w o m d A la ca ks i R c wy :=
  have z := h.size
  ⟨h.bel.trans (hb.mono h.bel.size), (hb.block _ (by omega)).trans h.box, (hb.block _ (by omega)).trans h.res, h.data.below hb, h.far, h.lst.below hb, h.nf.keep h.data fun _ g _ _ _ hl => hb.block g hl⟩
/-- The list is laid into the box again. -/
theorem CI.stored {w : World} {o m : Int} {d : List Int} {A : Option Addr} {la ca : Nat} {ks : List Tm} {i : Nat} {R R' : Option Addr} {c c' n' : Nat} {wx : World} (h0 : Below w.heap.size w wx)
    (hbox : wx.heap[w.heap.size]? = some (.cells #[.int .i64 o, .int .i64 m, .slice A la ca, .slice R n' c] 26)) (hres : wx.heap[w.heap.size + 1]? = some (.cells #[.int .i64 0, .int .i64 0, .slice none 0 0, .slice none 0 0] 26)) (hd : Bys wx A la d) (hf : 0 < la → ∀ g off sp, A = some ⟨g, off, sp⟩ → Out No w g ∧ some g ≠ (Value.slice R' 0 0).ownBlock) (hl : RNI No w i R' c' (ks.take i) wx) (hnf : NF wx A la) :
    CI w o m d A la ca ks i R' c' (wx.setCell ⟨w.heap.size, 3, none⟩ (.slice R' i c')) := by
  have hst : Stays (fun g => Out No w g) wx (wx.setCell ⟨w.heap.size, 3, none⟩ (.slice R' i c')) := ⟨by rw [set_size]; exact Nat.le_refl _, fun p hp hl => cell_same (set_heap_other _ _ _ _ _ (fun e => by unfold Out No at hp; omega))⟩
  obtain ⟨cs, hown, hqs⟩ := hl.row
  refine ⟨h0.setCell (Nat.le_refl _) _, set_heap _ _ 3 _ _ _ _ hbox, (set_heap_other _ _ _ _ _ (by omega)).trans hres, bys_stays hst hd (fun hl g off sp e => (hf hl g off sp e).1), hf, ⟨hl.len, cs, ?_, Quads.stays ⟨hst.1, fun p hp hl => hst.2 p hp.1 hl⟩ hqs⟩, hnf.keep hd fun hl g off sp e _ => set_heap_other _ _ _ _ _ (by have := (hf hl g off sp e).1; unfold Out No at this; omega)⟩
  refine ⟨hown.1, ?_⟩
  rcases hown.2 with h | ⟨g, cap, cur, e, h1, h2, h3⟩
  · exact .inl h
  · exact .inr ⟨g, cap, cur, e, h1, (set_heap_other _ _ _ _ _ (by omega)).trans h2, h3⟩
theorem CI.step {w : World} {o m : Int} {d : List Int} {A : Option Addr} {la ca : Nat} {ks : List Tm} {i : Nat} {R : Option Addr} {c : Nat} {wx w5 : World} (h : CI w o m d A la ca ks i R c wx) (hb5 : Below wx.heap.size wx w5) {k : Tm} (hki : ks[i]? = some k) (hi : i ≤ 100000) {n0 n1 n2 n3 : Value} (hk : TmC (fun g => wx.heap.size ≤ g) w5 k n0 n1 n2 n3) :
    ∃ A' c' w', (Builtin.append_ #[22, 22] 22 #[.slice R i c, .slice (some ⟨w5.heap.size, 0, none⟩) 1 1]).run Tryd.prog (w5.alloc (.cells #[n0, n1, n2, n3] 26)) = .ok (.slice A' (i + 1) c') w' ∧ w'.cell? ⟨w.heap.size, 3, none⟩ = some (.slice R i c) ∧ w'.frozen? ⟨w.heap.size, 3, none⟩ = false ∧
      CI w o m d A la ca ks (i + 1) A' c' (w'.setCell ⟨w.heap.size, 3, none⟩ (.slice A' (i + 1) c')) := by
  have hz := h.size
  have hb6 : Below wx.heap.size wx (w5.alloc (.cells #[n0, n1, n2, n3] 26)) := hb5.trans ((below_new w5 (.cells #[n0, n1, n2, n3] 26)).mono hb5.size)
  have h6 := h.below hb6
  have hlt : ∀ g, (Value.slice R 0 0).ownBlock = some g → w.heap.size + 2 ≤ g ∧ g < wx.heap.size := fun g e => by
    obtain ⟨cs, hown, _⟩ := h.lst.row
    exact hown.lt g ((own_le R i c).trans e)
  have hz6 := h6.size
  have hzz := hb6.size
  obtain ⟨A', c', w', hr, hR, hb, hst, hS, hblk⟩ := h6.lst.app2 (k := k) hz6 hi (TmC.mono (fun g hg => ⟨.inr (by have hg : wx.heap.size ≤ g := hg; omega), fun e => by have := hlt g e.symm; have hg : wx.heap.size ≤ g := hg; omega⟩) _ _ _ _ _ (TmC.below (below_new _ _) _ _ _ _ _ hk)) w5.heap.size 1 _ _ (heap_new_ _ _)
  have hbox := (hb.block w.heap.size (by omega)).trans h6.box
  have hres := (hb.block (w.heap.size + 1) (by omega)).trans h6.res
  have htk : ks.take i ++ [k] = ks.take (i + 1) := by
    obtain ⟨hh, rfl⟩ := List.getElem?_eq_some_iff.1 hki
    rw [List.take_succ_eq_append_getElem hh]
  rw [htk] at hR
  refine ⟨A', c', w', hr, by rw [Lib.cell_of_heap hbox]; rfl, Lib.frozen_of_heap hbox _, CI.stored (h6.bel.trans (hb.mono (by omega))) hbox hres (bys_stays hst h6.data h6.far) (fun hl g off sp e => hS g (h6.far hl g off sp e) ?_) hR (h6.nf.keep h6.data fun hl g off sp e hg => hblk g hg (h6.far hl g off sp e).2)⟩
  obtain ⟨b', off', e', hb', _⟩ := h6.data.2.2 hl
  rw [e'] at e; cases e; exact hb'
/-- The whole copy. -/
theorem CI.fin {w : World} {o m : Int} {d : List Int} {A : Option Addr} {la ca : Nat} {ks : List Tm} {i : Nat} {R : Option Addr} {c : Nat} {wx : World} (h : CI w o m d A la ca ks i R c wx) (ho : I64 o) (hm : I64 m) (hlc : la ≤ ca) (hcm : ca ≤ maxLen) (hn : ks.take i = ks) : TmC (fun g => Out No w g) wx (.mk o m d ks) (.int .i64 o) (.int .i64 m) (.slice A la ca) (.slice R i c) := by
  obtain ⟨cs, hown, hqs⟩ := h.lst.row
  obtain ⟨A', c', e, h1, h2, h3⟩ := own4_shape hown
  cases e
  have hlen := h.lst.len
  rw [hn] at hqs hlen
  subst hlen
  unfold TmC
  refine ⟨rfl, ho, rfl, hm, ⟨A, la, ca, rfl, hlc, hcm, h.data, fun hl g off sp e => (h.far hl g off sp e).1⟩, R, c, rfl, h1, h2, fun hpos => ?_⟩
  obtain ⟨g, rfl, hg1, hg2⟩ := h3 hpos
  refine ⟨g, 0, rfl, hg2, .inr hg1, Quads.kids (hqs.mono fun g hg => hg.1) fun j u hu => ?_⟩
  have hj := (List.getElem?_eq_some_iff.1 hu).1
  rw [Nat.zero_add, hown.cellAt j (by rw [← hown.1]; exact hj)]
  exact hu
end Go.Proofs.YtfmdmahlljbbmaaDoor.tmc
namespace Go.Proofs.YtfmdmahlljbbmaaDoor.tmc
open Go.RowKit Go.Proofs.YtfmdmahlljbbmaaDoor.tlvc
set_option linter.unusedVariables false
def CopiesAt (n : Tm) : Prop := ∀ (B : Nat → Prop) (v : Value) (w : World), TmV B w n v →
    Calls Tryd.prog 15 #[v] w fun e w' => ∃ v', e = .returned v' ∧ TmV (fun g => w.heap.size ≤ g) w' n v' ∧ Below w.heap.size w w'
/-- The same, with data that may be written to. -/
def CopiesAtF (n : Tm) : Prop := ∀ (B : Nat → Prop) (v : Value) (w : World), TmV B w n v →
    Calls Tryd.prog 15 #[v] w fun e w' => ∃ v', e = .returned v' ∧ TmV (fun g => w.heap.size ≤ g) w' n v' ∧ Below w.heap.size w w' ∧ NFv w' v'
theorem CopiesAtF.weak {n : Tm} (h : CopiesAtF n) : CopiesAt n := fun B v w hv => (h B v w hv).mono fun e w' ⟨v', h1, h2, h3, _⟩ => ⟨v', h1, h2, h3⟩
set_option maxRecDepth 100000 in
set_option maxHeartbeats 16000000 in
theorem copy_step (o m : Int) (d : List Int) (ks : List Tm) (hk : ∀ k ∈ ks, CopiesAt k) (hdl : d.length ≤ 140737488351232) (hn : ks.length ≤ 100000) : CopiesAtF (.mk o m d ks) := by
  intro B v w hv
  obtain ⟨c0, c1, c2, c3, rfl, hc⟩ := hv
  obtain ⟨oo, mm, A, la, ca, K, n, ck, rfl, rfl, rfl, rfl⟩ := hc.shape
  have hc0 := hc
  obtain ⟨hlen, hlc, hck9, _⟩ := kid_at hc
  rw [hlen] at hn
  unfold TmC at hc
  obtain ⟨e0, ho, e1, hm, ⟨A', la', ca', e2, hA1, hA2, hA3, hA4⟩, _⟩ := hc
  cases e0; cases e1; cases e2
  have hdla : d.length = la := hA3.1
  obtain ⟨W0, hW0⟩ : ∃ x, (w.alloc (.cells #[.int .i64 o, .int .i64 m, .slice A la ca, .slice K n ck] 26)).alloc (.cells #[.int .i64 0, .int .i64 0, .slice none 0 0, .slice none 0 0] 26) = x := ⟨_, rfl⟩
  have hz0 : W0.heap.size = w.heap.size + 2 := by rw [← hW0]; simp
  have p0 : W0.heap[w.heap.size]? = some (.cells #[.int .i64 o, .int .i64 m, .slice A la ca, .slice K n ck] 26) := by rw [← hW0, heap_old_ _ _ (by simp)]; exact heap_new_ _ _
  have p1 : W0.heap[w.heap.size + 1]? = some (.cells #[.int .i64 0, .int .i64 0, .slice none 0 0, .slice none 0 0] 26) := by
    rw [← hW0]
    have := heap_new_ (w.alloc (.cells #[.int .i64 o, .int .i64 m, .slice A la ca, .slice K n ck] 26)) (.cells #[.int .i64 0, .int .i64 0, .slice none 0 0, .slice none 0 0] 26)
    rwa [show (w.alloc (.cells #[.int .i64 o, .int .i64 m, .slice A la ca, .slice K n ck] 26)).heap.size = w.heap.size + 1 by simp] at this
  have hb0 : Below w.heap.size w W0 := by rw [← hW0]; exact (below_new _ _).alloc (by simp) _
  obtain ⟨v3, w1, hrun, hown3, hg3, hob3⟩ := app_long (W0.alloc (.cells #[] 5)) W0.heap.size (.slice (some ⟨W0.heap.size, 0, none⟩) 0 0) 0 [] (World.ownsRow_lit W0 #[] 0 (Nat.le_refl _) (Nat.zero_le _) rfl) A la ca d ((hA3.below hb0).alloc _) (by omega) (by simp)
  rw [Nat.zero_add, List.nil_append] at hown3
  obtain ⟨Ao, co, hv3, hlo, hco, hAo⟩ := own_shape hown3
  subst hv3
  have hb1 : Below W0.heap.size W0 w1 := ((Below.refl _ _).alloc (Nat.le_refl _) _).grown hg3 (by simp) fun j hj => by have hj : some W0.heap.size = some j := hj; cases hj; exact Nat.le_refl _
  have hbo := Bys.own hown3 hA3.2.1
  have hfar : ∀ g off sp, Ao = some ⟨g, off, sp⟩ → W0.heap.size ≤ g := fun g off sp e => (hown3.lt g (by rw [e]; rfl)).1
  have q0 := (hb1.block w.heap.size (by omega)).trans p0
  have q1 := (hb1.block (w.heap.size + 1) (by omega)).trans p1
  have hbw1 : Below w.heap.size w w1 := hb0.trans (hb1.mono hb0.size)
  have hst2 : Stays (fun g => Out No w g) w1 (w1.setCell ⟨w.heap.size, 2, none⟩ (.slice Ao la co)) := ⟨by rw [set_size]; exact Nat.le_refl _, fun p hp hl => cell_same (set_heap_other _ _ _ _ _ (fun e => by unfold Out No at hp; omega))⟩
  have hdata2 := bys_stays hst2 hbo (fun hl g off sp e => .inr (by have := hfar g off sp e; omega))
  have hnfo : NF w1 Ao la := fun hl g off sp e j => by
    obtain ⟨g', e', _⟩ := hAo 0 hl
    rw [e'] at e hown3
    cases e
    exact hown3.frozenAt j
  have hnf2 : NF (w1.setCell ⟨w.heap.size, 2, none⟩ (.slice Ao la co)) Ao la := hnfo.keep hbo fun hl g off sp e _ => set_heap_other _ _ _ _ _ (by have := hfar g off sp e; omega)
  have hci := CI.stored (w := w) (ks := ks) (i := 0) (R' := none) (c' := 0) (hbw1.setCell (show w.heap.size ≤ (⟨w.heap.size, 2, none⟩ : Addr).block from Nat.le_refl _) (.slice Ao la co)) (set_heap _ _ 2 (.slice Ao la co) _ _ _ q0) ((set_heap_other _ _ _ _ _ (by omega)).trans q1) hdata2 (fun hl g off sp e => ⟨.inr (by have := hfar g off sp e; omega), fun e => by cases e⟩) (by rw [List.take_zero]; exact RNI.start) hnf2
  have hkid := fun W (hW : Below w.heap.size w W) => (kid_at (TmC.below hW _ _ _ _ _ hc0)).2.2.2
  have f0 : W0.cell? ⟨w.heap.size, 3, none⟩ = some (.slice K n ck) := by rw [Lib.cell_of_heap p0]; rfl
  have f1 : W0.cell? ⟨w.heap.size, 2, none⟩ = some (.slice A la ca) := by rw [Lib.cell_of_heap p0]; rfl
  have f1' : (W0.alloc (.cells #[] 5)).cell? ⟨w.heap.size, 2, none⟩ = some (.slice A la ca) := by rw [Lib.cell_of_heap ((heap_old_ W0 _ (by omega)).trans p0)]; rfl
  have f2 : w1.frozen? ⟨w.heap.size, 2, none⟩ = false := Lib.frozen_of_heap q0 _
  have f3 : w1.cell? ⟨w.heap.size, 2, none⟩ = some (.slice A la ca) := by rw [Lib.cell_of_heap q0]; rfl
  have q2 := set_heap w1 w.heap.size 2 (.slice Ao la co) _ _ _ q0
  have f4 : (w1.setCell ⟨w.heap.size, 2, none⟩ (.slice Ao la co)).frozen? ⟨w.heap.size, 3, none⟩ = false := Lib.frozen_of_heap q2 _
  have f5 : (w1.setCell ⟨w.heap.size, 2, none⟩ (.slice Ao la co)).cell? ⟨w.heap.size, 3, none⟩ = some (.slice K n ck) := by rw [Lib.cell_of_heap q2]; rfl
  have HKID := Lib.hid hkid
  have HIH := Lib.hid hk
  have HLEN := Lib.hid hlen
  have HCI := Lib.hid hci
  have HB0 := Lib.hid hb0
  have HZ0 := Lib.hid hz0
  have HLO := Lib.hid (And.intro hlo hco)
  clear hkid hk hlen hci hb0 p0 p1 hnfo hnf2 hown3 hg3 hob3 hAo hb1 hbo hfar q0 q1 q2 hbw1 hst2 hdata2 hA3 hA4 hc0 hdla hlo hco hz0
  go_enter Tryd.func15, Tryd.ntmps15
  go_wp2_with (at_builtin; refine wpl_append rfl (.tmp 7) (.tmp 9) 24 rfl _ _ _ rfl rfl hrun ?_)
  obtain ⟨W2, hW2⟩ : ∃ y, (w1.setCell ⟨w.heap.size, 2, none⟩ (.slice Ao la co)).setCell ⟨w.heap.size, 3, none⟩ (.slice none 0 0) = y := ⟨_, rfl⟩
  rw [hW2] at HCI ⊢
  clear hW2 hrun f0 f1 f1' f2 f3 f4 f5 hW0
  go_loopg [4] (n + 1) (fun gk s4 wx => ∃ (i : Nat) (R : Option Addr) (c : Nat), s4 = .int .i64 i ∧ i ≤ n ∧ n - i < gk ∧ Hid (CI w o m d Ao la co ks i R c wx))
  case atStart => exact ⟨0, none, 0, rfl, by omega, by omega, HCI⟩
  case round =>
    obtain ⟨i, R, c, rfl, hi, hgk, HI⟩ := hrel
    by_cases hlt : i < n
    · have hltz : (i : Int) < (n : Int) := by omega
      obtain ⟨gk', rfl⟩ : ∃ g', gk = g' + 1 := ⟨gk - 1, by omega⟩
      have HN12 := Lib.hid (And.intro (show i + 1 ≤ n from hlt) (show n - (i + 1) < gk' by omega))
      obtain ⟨k, g, off, d0, d1, d2, d3, hki, rfl, e0, e1, e2, e3, hd⟩ := HKID.out wr HI.out.bel i hlt
      have hcall := HIH.out k (List.mem_of_getElem? hki) _ (.agg #[d0, d1, d2, d3]) wr.drew ⟨_, _, _, _, rfl, TmC.below (Below.refl _ _).drew _ _ _ _ _ hd⟩
      have HCALL := Lib.hid hcall
      have HKI := Lib.hid hki
      have hbx : ∀ W, Below wr.heap.size wr W → W.cell? ⟨w.heap.size, 3, none⟩ = some (.slice R i c) := fun W hW => by
        rw [Lib.cell_of_heap (HI.out.below hW).box]; rfl
      have a3 := hbx wr (Below.refl _ _)
      have HBX := Lib.hid hbx
      clear hcall hki hd hbx hgk
      go_wp2_with fail
      go_region_law (first | (refine step_run rfl (.tmp 20) (.tmp 26) 22 rfl _ _ _ (by simp [Act.eval]) (by simp [Act.eval]) hrun ?_) | (go_simp; go_at_call 15; refine HCALL.out.mono ?_; rintro e w5 ⟨v5, rfl, ⟨n0, n1, n2, n3, rfl, hk5⟩, hb5⟩; obtain ⟨o5, m5, A5, la5, ca5, K5, lk5, ck5, rfl, rfl, rfl, rfl⟩ := hk5.shape; obtain ⟨A7, c7, w7, hrun, g0, g1, hci⟩ := HI.out.step (drew_below hb5) HKI.out (by omega) hk5; have x5 := HBX.out w5 (drew_below hb5); have x6 := HBX.out _ ((drew_below hb5).trans ((below_new w5 (.cells #[.int .i64 o5, .int .i64 m5, .slice A5 la5 ca5, .slice K5 lk5 ck5] 26)).mono (drew_below hb5).size)); have HCI := Lib.hid hci; clear hci hk5 hb5))
      all_goals
        clear hrun g0 g1 x5 x6 a3 e0 e1 e2 e3
        go_wp2
        go_roundg gk'
        case measure => omega
        case rel => exact ⟨i + 1, A7, c7, by go_num, HN12.out.1, HN12.out.2, HCI⟩
    · have hltz : ¬ (i : Int) < (n : Int) := by omega
      obtain rfl : i = n := by omega
      have htk : ks.take i = ks := List.take_of_length_le (by rw [HLEN.out]; omega)
      have hI := HI.out
      have hkf := hI.fin ho hm HLO.out.1 HLO.out.2 htk
      obtain ⟨r0, r1, r2, r3, hB, hT⟩ := res_end2 (w := w) (b := w.heap.size + 1) (S := Out No w) (by omega) hI.bel hI.res (fun g hg => by unfold Out No at hg; omega) hkf
      have hT2 := TmV.mono hT (B' := fun g => w.heap.size ≤ g) (fun g hg => by
        rcases hg with h | h
        · exact h.1.elim
        · omega)
      obtain ⟨s0, s1, s2, s3⟩ := Lat.box (Lat.refl wr) hI.box
      obtain ⟨t0, t1, t2, t3⟩ := Lat.box (Lat.refl wr) hI.res
      have f0 : wr.frozen? ⟨w.heap.size + 1, 0, none⟩ = false := Lib.frozen_of_heap hI.res _
      have f1 : wr.frozen? ⟨w.heap.size + 1, 1, none⟩ = false := Lib.frozen_of_heap hI.res _
      have f2 : wr.frozen? ⟨w.heap.size + 1, 2, none⟩ = false := Lib.frozen_of_heap hI.res _
      have f3 : wr.frozen? ⟨w.heap.size + 1, 3, none⟩ = false := Lib.frozen_of_heap hI.res _
      have hnfe : NFv (set4 wr (w.heap.size + 1) 0 (.int .i64 o) (.int .i64 m) (.slice Ao la co) (.slice R i c)) (.agg #[.int .i64 o, .int .i64 m, .slice Ao la co, .slice R i c]) := NFv.mk (hI.nf.keep hI.data fun hl g off sp e _ => set4_other _ _ _ _ _ _ _ _ (by have := (hI.far hl g off sp e).1; unfold Out No at this; omega))
      have HNE := Lib.hid hnfe
      have HE := Lib.hid (And.intro hB hT2)
      clear hB hT hT2 hkf hI htk HI hnfe
      go_wp2_with fail
      refine bodyPost_ret (v := .agg #[.int .i64 o, .int .i64 m, .slice Ao la co, .slice R i c]) ?_ rfl ⟨_, rfl, HE.out.2, HE.out.1, HNE.out⟩
      simp [results, Tryd.results15, go_sem, r0, r1, r2, r3]
theorem copies_all : ∀ (N : Nat) (n : Tm), szT n ≤ N → N ≤ 100000 → fitD n → CopiesAtF n
  | 0, .mk _ _ _ ks, h, _, _ => by unfold szT at h; omega
  | N + 1, .mk o m d ks, h, hN, hf => by
    unfold szT at h
    unfold fitD at hf
    refine copy_step o m d ks (fun k hk => (copies_all N k (by have := szTs_mem hk; omega) (by omega) (fitDs_all.1 hf.2 k hk)).weak) hf.1 ?_
    have := len_szTs ks
    omega
theorem copied_nf (n : Tm) (h : szT n ≤ 100000) (hf : fitD n) : CopiesAtF n := copies_all _ n (Nat.le_refl _) h hf
theorem copied_any (n : Tm) (h : szT n ≤ 100000) (hf : fitD n) : CopiesAt n := (copied_nf n h hf).weak
end Go.Proofs.YtfmdmahlljbbmaaDoor.tmc
