/- Lists of the call's own that grow by terms. The document's Norm. A copy of a term in work. Copied: a term on its own. -/
import Derived.Test.YtlhogjigdmpokaaGreatDoorTi
import Derived.Deep.RegionLaw
namespace Go.Proofs.YtlhogjigdmpokaaGreatDoor.tmc
open Go.RowKit Go.Proofs.YtlhogjigdmpokaaGreatDoor.tlvc
set_option linter.unusedVariables false
/-- What lies ahead of the call, or behind its two boxes. -/
def Out (B : Nat → Prop) (w : World) (g : Nat) : Prop := (B g ∧ g < w.heap.size) ∨ w.heap.size + 2 ≤ g
structure RNI (B : Nat → Prop) (w : World) (n : Nat) (A : Option Addr) (c : Nat) (l : List Tm) (wx : World) : Prop where
  len : l.length = n
  row : ∃ cs, wx.ownsRow (w.heap.size + 2) 43 4 (.slice A n c) n cs ∧ Quads (fun g => Out B w g ∧ some g ≠ (Value.slice A 0 0).ownBlock) wx l cs
theorem RNI.below {B : Nat → Prop} {w : World} {n c : Nat} {A : Option Addr} {l : List Tm} {wx wy : World} (h : RNI B w n A c l wx) (hb : Below wx.heap.size wx wy) : RNI B w n A c l wy := by
  obtain ⟨cs, h1, h2⟩ := h.row
  exact ⟨h.len, cs, own_below h1 hb, h2.stays (stays_below hb _)⟩
theorem RNI.start {B : Nat → Prop} {w wx : World} : RNI B w 0 none 0 [] wx := ⟨rfl, [], World.ownsRow_nil _ _ _ _, rfl⟩
theorem RNI.app2 {B : Nat → Prop} {w : World} {n c : Nat} {A : Option Addr} {l : List Tm} {wx : World} (h : RNI B w n A c l wx) (hz : w.heap.size + 2 ≤ wx.heap.size) (hn : n ≤ 100000) {k : Tm} {n0 n1 n2 n3 : Value} (hk : TmC (fun g => Out B w g ∧ some g ≠ (Value.slice A 0 0).ownBlock) wx k n0 n1 n2 n3)
    (g1 c1 : Nat) (T : TypeId) (fr : Nat × Nat) (hq : wx.heap[g1]? = some (.cells #[n0, n1, n2, n3] T fr)) :
    ∃ A' c' w', (Builtin.append_ #[22, 22] 22 #[.slice A n c, .slice (some ⟨g1, 0, none⟩) 1 c1]).run Tryz.prog wx = .ok (.slice A' (n + 1) c') w' ∧ RNI B w (n + 1) A' c' (l ++ [k]) w' ∧ Below (w.heap.size + 2) wx w' ∧ Stays (fun g => Out B w g ∧ some g ≠ (Value.slice A 0 0).ownBlock) wx w' ∧ (∀ g, (Out B w g ∧ some g ≠ (Value.slice A 0 0).ownBlock) → g < wx.heap.size → (Out B w g ∧ some g ≠ (Value.slice A' 0 0).ownBlock)) ∧ ∀ g, g < wx.heap.size → some g ≠ (Value.slice A 0 0).ownBlock → w'.heap[g]? = wx.heap[g]? := by
  obtain ⟨cs, hown, hqs⟩ := h.row
  obtain ⟨o0, o1, o2, o3⟩ := hk.one
  obtain ⟨v', w', hr, ho, hg, hob⟩ := app_terms wx (w.heap.size + 2) (.slice A n c) n cs hown ⟨g1, 0, none⟩ 1 c1 [n0, n1, n2, n3] rfl (fun u hu => by
    simp only [List.mem_cons, List.not_mem_nil, or_false] at hu
    rcases hu with rfl | rfl | rfl | rfl <;> assumption) (fun j u hu => by
    rw [Addr.add_lit, Nat.zero_add, Lib.cell_of_heap hq, ← hu]
    simp) (by omega) hz
  obtain ⟨A', c', rfl, _⟩ := own4_shape ho
  have hst : Stays (fun g => Out B w g ∧ some g ≠ (Value.slice A 0 0).ownBlock) wx w' := ⟨hg.size, fun p hp hl => cell_same (hg.block _ hl (fun e => hp.2 (by rw [← own_le A n c]; exact e)))⟩
  have hS : ∀ g, (Out B w g ∧ some g ≠ (Value.slice A 0 0).ownBlock) → g < wx.heap.size → (Out B w g ∧ some g ≠ (Value.slice A' 0 0).ownBlock) := fun g hg hl => ⟨hg.1, fun e => by
    rw [← own_le A' (n + 1) c'] at e
    rcases hob with hs | ⟨g', hs, hge⟩
    · exact hg.2 (by rw [← own_le A n c, ← hs]; exact e)
    · rw [hs] at e; cases e; omega⟩
  refine ⟨A', c', w', hr, ⟨by rw [List.length_append, h.len]; rfl, cs ++ [n0, n1, n2, n3], ho, Quads.snoc (TmC.below2 hst hk hS) (Quads.below2 hst hS hqs)⟩, (Below.refl _ _).grown hg hz fun j hj => (hown.lt j hj).1, hst, hS, fun g hl hne => hg.block _ hl (fun e => hne (by rw [← own_le A n c]; exact e))⟩
theorem RNI.app {B : Nat → Prop} {w : World} {n c : Nat} {A : Option Addr} {l : List Tm} {wx : World} (h : RNI B w n A c l wx) (hz : w.heap.size + 2 ≤ wx.heap.size) (hn : n ≤ 100000) {k : Tm} {n0 n1 n2 n3 : Value} (hk : TmC (fun g => Out B w g ∧ some g ≠ (Value.slice A 0 0).ownBlock) wx k n0 n1 n2 n3)
    (g1 c1 : Nat) (T : TypeId) (fr : Nat × Nat) (hq : wx.heap[g1]? = some (.cells #[n0, n1, n2, n3] T fr)) :
    ∃ A' c' w', (Builtin.append_ #[22, 22] 22 #[.slice A n c, .slice (some ⟨g1, 0, none⟩) 1 c1]).run Tryz.prog wx = .ok (.slice A' (n + 1) c') w' ∧ RNI B w (n + 1) A' c' (l ++ [k]) w' ∧ Below (w.heap.size + 2) wx w' ∧ Stays (fun g => Out B w g ∧ some g ≠ (Value.slice A 0 0).ownBlock) wx w' ∧ ∀ g, (Out B w g ∧ some g ≠ (Value.slice A 0 0).ownBlock) → g < wx.heap.size → (Out B w g ∧ some g ≠ (Value.slice A' 0 0).ownBlock) :=
  (h.app2 hz hn hk g1 c1 T fr hq).elim fun A' h => h.elim fun c' h => h.elim fun w' h => ⟨A', c', w', h.1, h.2.1, h.2.2.1, h.2.2.2.1, h.2.2.2.2.1⟩
/-- What a put leaves is such a list. -/
theorem RNI.put {B : Nat → Prop} {w : World} {n c : Nat} {A : Option Addr} {l ps : List Tm} {wx w' : World} {cs' : List Value} (hz : w.heap.size + 2 ≤ wx.heap.size) (hl : ps.length = n) (hown : w'.ownsRow wx.heap.size 43 4 (.slice A n c) n cs') (hq : Quads (fun g => Out B w g ∧ g < wx.heap.size) w' ps cs') : RNI B w n A c ps w' :=
  ⟨hl, cs', own_base hown hz, hq.mono fun g hg => ⟨hg.1, fun e => by rw [← own_le A n c] at e; have := (hown.lt g e.symm).1; have := hg.2; omega⟩⟩
/-- The list, as put takes it. -/
theorem RNI.tms {B : Nat → Prop} {w : World} {n c : Nat} {A : Option Addr} {l : List Tm} {wx : World} (h : RNI B w n A c l wx) : n ≤ c ∧ c ≤ maxLen ∧ TmsB (fun g => Out B w g ∧ g < wx.heap.size) wx A l := by
  obtain ⟨cs, hown, hqs⟩ := h.row
  obtain ⟨A', c', e, h1, h2, h3⟩ := own4_shape hown
  cases e
  refine ⟨h1, h2, fun hpos => ?_⟩
  obtain ⟨g, rfl, hg1, hg2⟩ := h3 (by rw [← h.len]; exact hpos)
  refine ⟨g, 0, rfl, hg2, ⟨.inr hg1, hg2⟩, ?_⟩
  have hk := KidsC.bound _ _ (Quads.kids (g := g) (off := 0) hqs fun j u hu => by
    have hj := (List.getElem?_eq_some_iff.1 hu).1
    rw [Nat.zero_add, hown.cellAt j (by rw [← hown.1]; exact hj)]
    exact hu)
  exact KidsC.mono (fun g hg => ⟨hg.1.1, hg.2⟩) _ _ hk
/-- The whole term. -/
theorem RNI.fin {w : World} {n c : Nat} {A : Option Addr} {l : List Tm} {wx : World} {o m : Int} {d : List Int} {Ad : Option Addr} {la ca : Nat} {B : Nat → Prop} (h : RNI B w n A c l wx) (hb : Below w.heap.size w wx) (ho : I64 o) (hm : I64 m) (hd : Bys wx Ad la d) (hlc : la ≤ ca) (hcm : ca ≤ maxLen) (hB : 0 < la → ∀ g off sp, Ad = some ⟨g, off, sp⟩ → Out B w g)
    {b0 b1 b2 b3 r0 r1 r2 r3 : Value} {T T2 : TypeId} {fr fr2 : Nat × Nat} (hbox : wx.heap[w.heap.size]? = some (.cells #[b0, b1, b2, b3] T fr)) (hres : wx.heap[w.heap.size + 1]? = some (.cells #[r0, r1, r2, r3] T2 fr2)) :
    TmC (fun g => Out B w g) (wx.setCell ⟨w.heap.size, 3, none⟩ (.slice A n c)) (.mk o m d l) (.int .i64 o) (.int .i64 m) (.slice Ad la ca) (.slice A n c) ∧ (wx.setCell ⟨w.heap.size, 3, none⟩ (.slice A n c)).heap[w.heap.size]? = some (.cells #[b0, b1, b2, .slice A n c] T fr) ∧ (wx.setCell ⟨w.heap.size, 3, none⟩ (.slice A n c)).heap[w.heap.size + 1]? = some (.cells #[r0, r1, r2, r3] T2 fr2) ∧ Below w.heap.size w (wx.setCell ⟨w.heap.size, 3, none⟩ (.slice A n c)) := by
  have hst : Stays (fun g => Out B w g) wx (wx.setCell ⟨w.heap.size, 3, none⟩ (.slice A n c)) := ⟨by rw [set_size]; exact Nat.le_refl _, fun p hp hl => cell_same (set_heap_other _ _ _ _ _ (fun e => by unfold Out at hp; omega))⟩
  obtain ⟨cs, hown, hqs⟩ := h.row
  obtain ⟨A', c', e, h1, h2, h3⟩ := own4_shape hown
  cases e
  refine ⟨?_, set_heap _ _ 3 _ _ _ _ hbox, (set_heap_other _ _ _ _ _ (by omega)).trans hres, hb.setCell (Nat.le_refl _) _⟩
  refine TmC.stays hst _ _ _ _ _ ?_
  obtain ⟨rfl⟩ := h.len
  unfold TmC
  refine ⟨rfl, ho, rfl, hm, ⟨Ad, la, ca, rfl, hlc, hcm, hd, fun hl g off sp e => hB hl g off sp e⟩, A, c, rfl, h1, h2, fun hpos => ?_⟩
  obtain ⟨g, rfl, hg1, hg2⟩ := h3 hpos
  refine ⟨g, 0, rfl, hg2, .inr hg1, Quads.kids (hqs.mono fun g hg => hg.1) fun j u hu => ?_⟩
  have hj := (List.getElem?_eq_some_iff.1 hu).1
  rw [Nat.zero_add, hown.cellAt j (by rw [← hown.1]; exact hj)]
  exact hu
end Go.Proofs.YtlhogjigdmpokaaGreatDoor.tmc
namespace Go.Proofs.YtlhogjigdmpokaaGreatDoor.tmc
open Go.RowKit Go.Proofs.YtlhogjigdmpokaaGreatDoor.tlvc
set_option linter.unusedVariables false
/-- The kids of a term whose powers are in order. -/
def LIf (o : Int) (l : List Tm) : List Tm := if o = 7 then sortI l else l
theorem LIf_len (o : Int) (l : List Tm) : (LIf o l).length = l.length := by unfold LIf; split; exact sortI_len l; rfl
theorem rni_zero (B : Nat → Prop) (w wx : World) (o : Int) (l : List Tm) : RNI B w 0 none 0 (LIf o (l.take 0)) wx := by
  have h : LIf o (l.take 0) = [] := by
    unfold LIf
    split <;> rfl
  rw [h]
  exact RNI.start
theorem norm_LIf (o m : Int) (d : List Int) (ks : List Tm) : normF (.mk o m d ks) = .mk o m d (LIf o (ks.map normF)) := normF_mk o m d ks
end Go.Proofs.YtlhogjigdmpokaaGreatDoor.tmc
namespace Go.Proofs.YtlhogjigdmpokaaGreatDoor.tmc
open Go.RowKit Go.Proofs.YtlhogjigdmpokaaGreatDoor.tlvc
set_option linter.unusedVariables false
def No (g : Nat) : Prop := False
structure CI (w : World) (o m : Int) (d : List Int) (A : Option Addr) (la ca : Nat) (ks : List Tm) (i : Nat) (R : Option Addr) (c : Nat) (wx : World) : Prop where
  bel : Below w.heap.size w wx
  box : wx.heap[w.heap.size]? = some (.cells #[.int .i64 o, .int .i64 m, .slice A la ca, .slice R i c] 43)
  res : wx.heap[w.heap.size + 1]? = some (.cells #[.int .i64 0, .int .i64 0, .slice none 0 0, .slice none 0 0] 43)
  data : Bys wx A la d
  far : 0 < la → ∀ g off sp, A = some ⟨g, off, sp⟩ → Out No w g ∧ some g ≠ (Value.slice R 0 0).ownBlock
  lst : RNI No w i R c (ks.take i) wx
  nf : NF wx A la
theorem CI.size {w : World} {o m : Int} {d : List Int} {A : Option Addr} {la ca : Nat} {ks : List Tm} {i : Nat} {R : Option Addr} {c : Nat} {wx : World} (h : CI w o m d A la ca ks i R c wx) : w.heap.size + 2 ≤ wx.heap.size := (Array.getElem?_eq_some_iff.1 h.res).1
theorem CI.below {w : World} {o m : Int} {d : List Int} {A : Option Addr} {la ca : Nat} {ks : List Tm} {i : Nat} {R : Option Addr} {c : Nat} {wx wy : World} (h : CI w o m d A la ca ks i R c wx) (hb : Below wx.heap.size wx wy) : CI w o m d A la ca ks i R c wy :=
  have z := h.size
  ⟨h.bel.trans (hb.mono h.bel.size), (hb.block _ (by omega)).trans h.box, (hb.block _ (by omega)).trans h.res, h.data.below hb, h.far, h.lst.below hb, h.nf.keep h.data fun _ g _ _ _ hl => hb.block g hl⟩
/-- The list is laid into the box again. -/
theorem CI.stored {w : World} {o m : Int} {d : List Int} {A : Option Addr} {la ca : Nat} {ks : List Tm} {i : Nat} {R R' : Option Addr} {c c' n' : Nat} {wx : World} (h0 : Below w.heap.size w wx)
    (hbox : wx.heap[w.heap.size]? = some (.cells #[.int .i64 o, .int .i64 m, .slice A la ca, .slice R n' c] 43)) (hres : wx.heap[w.heap.size + 1]? = some (.cells #[.int .i64 0, .int .i64 0, .slice none 0 0, .slice none 0 0] 43)) (hd : Bys wx A la d) (hf : 0 < la → ∀ g off sp, A = some ⟨g, off, sp⟩ → Out No w g ∧ some g ≠ (Value.slice R' 0 0).ownBlock) (hl : RNI No w i R' c' (ks.take i) wx) (hnf : NF wx A la) :
    CI w o m d A la ca ks i R' c' (wx.setCell ⟨w.heap.size, 3, none⟩ (.slice R' i c')) := by
  have hst : Stays (fun g => Out No w g) wx (wx.setCell ⟨w.heap.size, 3, none⟩ (.slice R' i c')) := ⟨by rw [set_size]; exact Nat.le_refl _, fun p hp hl => cell_same (set_heap_other _ _ _ _ _ (fun e => by unfold Out No at hp; omega))⟩
  obtain ⟨cs, hown, hqs⟩ := hl.row
  refine ⟨h0.setCell (Nat.le_refl _) _, set_heap _ _ 3 _ _ _ _ hbox, (set_heap_other _ _ _ _ _ (by omega)).trans hres, bys_stays hst hd (fun hl g off sp e => (hf hl g off sp e).1), hf, ⟨hl.len, cs, ?_, Quads.stays ⟨hst.1, fun p hp hl => hst.2 p hp.1 hl⟩ hqs⟩, hnf.keep hd fun hl g off sp e _ => set_heap_other _ _ _ _ _ (by have := (hf hl g off sp e).1; unfold Out No at this; omega)⟩
  refine ⟨hown.1, ?_⟩
  rcases hown.2 with h | ⟨g, cap, cur, e, h1, h2, h3⟩
  · exact .inl h
  · exact .inr ⟨g, cap, cur, e, h1, (set_heap_other _ _ _ _ _ (by omega)).trans h2, h3⟩
theorem CI.step {w : World} {o m : Int} {d : List Int} {A : Option Addr} {la ca : Nat} {ks : List Tm} {i : Nat} {R : Option Addr} {c : Nat} {wx w5 : World} (h : CI w o m d A la ca ks i R c wx) (hb5 : Below wx.heap.size wx w5) {k : Tm} (hki : ks[i]? = some k) (hi : i ≤ 100000) {n0 n1 n2 n3 : Value} (hk : TmC (fun g => wx.heap.size ≤ g) w5 k n0 n1 n2 n3) :
    ∃ A' c' w', (Builtin.append_ #[22, 22] 22 #[.slice R i c, .slice (some ⟨w5.heap.size, 0, none⟩) 1 1]).run Tryz.prog (w5.alloc (.cells #[n0, n1, n2, n3] 43)) = .ok (.slice A' (i + 1) c') w' ∧ w'.cell? ⟨w.heap.size, 3, none⟩ = some (.slice R i c) ∧ w'.frozen? ⟨w.heap.size, 3, none⟩ = false ∧
      CI w o m d A la ca ks (i + 1) A' c' (w'.setCell ⟨w.heap.size, 3, none⟩ (.slice A' (i + 1) c')) := by
  have hz := h.size
  have hb6 : Below wx.heap.size wx (w5.alloc (.cells #[n0, n1, n2, n3] 43)) := hb5.trans ((below_new w5 (.cells #[n0, n1, n2, n3] 43)).mono hb5.size)
  have h6 := h.below hb6
  have hlt : ∀ g, (Value.slice R 0 0).ownBlock = some g → w.heap.size + 2 ≤ g ∧ g < wx.heap.size := fun g e => by
    obtain ⟨cs, hown, _⟩ := h.lst.row
    exact hown.lt g ((own_le R i c).trans e)
  have hz6 := h6.size
  have hzz := hb6.size
  obtain ⟨A', c', w', hr, hR, hb, hst, hS, hblk⟩ := h6.lst.app2 (k := k) hz6 hi (TmC.mono (fun g hg => ⟨.inr (by have hg : wx.heap.size ≤ g := hg; omega), fun e => by have := hlt g e.symm; have hg : wx.heap.size ≤ g := hg; omega⟩) _ _ _ _ _ (TmC.below (below_new _ _) _ _ _ _ _ hk)) w5.heap.size 1 _ _ (heap_new_ _ _)
  have hbox := (hb.block w.heap.size (by omega)).trans h6.box
  have hres := (hb.block (w.heap.size + 1) (by omega)).trans h6.res
  have htk : ks.take i ++ [k] = ks.take (i + 1) := by
    obtain ⟨hh, rfl⟩ := List.getElem?_eq_some_iff.1 hki
    rw [List.take_succ_eq_append_getElem hh]
  rw [htk] at hR
  refine ⟨A', c', w', hr, by rw [Lib.cell_of_heap hbox]; rfl, Lib.frozen_of_heap hbox _, CI.stored (h6.bel.trans (hb.mono (by omega))) hbox hres (bys_stays hst h6.data h6.far) (fun hl g off sp e => hS g (h6.far hl g off sp e) ?_) hR (h6.nf.keep h6.data fun hl g off sp e hg => hblk g hg (h6.far hl g off sp e).2)⟩
  obtain ⟨b', off', e', hb', _⟩ := h6.data.2.2 hl
  rw [e'] at e; cases e; exact hb'
/-- The whole copy. -/
theorem CI.fin {w : World} {o m : Int} {d : List Int} {A : Option Addr} {la ca : Nat} {ks : List Tm} {i : Nat} {R : Option Addr} {c : Nat} {wx : World} (h : CI w o m d A la ca ks i R c wx) (ho : I64 o) (hm : I64 m) (hlc : la ≤ ca) (hcm : ca ≤ maxLen) (hn : ks.take i = ks) : TmC (fun g => Out No w g) wx (.mk o m d ks) (.int .i64 o) (.int .i64 m) (.slice A la ca) (.slice R i c) := by
  obtain ⟨cs, hown, hqs⟩ := h.lst.row
  obtain ⟨A', c', e, h1, h2, h3⟩ := own4_shape hown
  cases e
  have hlen := h.lst.len
  rw [hn] at hqs hlen
  subst hlen
  unfold TmC
  refine ⟨rfl, ho, rfl, hm, ⟨A, la, ca, rfl, hlc, hcm, h.data, fun hl g off sp e => (h.far hl g off sp e).1⟩, R, c, rfl, h1, h2, fun hpos => ?_⟩
  obtain ⟨g, rfl, hg1, hg2⟩ := h3 hpos
  refine ⟨g, 0, rfl, hg2, .inr hg1, Quads.kids (hqs.mono fun g hg => hg.1) fun j u hu => ?_⟩
  have hj := (List.getElem?_eq_some_iff.1 hu).1
  rw [Nat.zero_add, hown.cellAt j (by rw [← hown.1]; exact hj)]
  exact hu
end Go.Proofs.YtlhogjigdmpokaaGreatDoor.tmc
namespace Go.Proofs.YtlhogjigdmpokaaGreatDoor.tmc
open Go.RowKit Go.Proofs.YtlhogjigdmpokaaGreatDoor.tlvc
set_option linter.unusedVariables false
end Go.Proofs.YtlhogjigdmpokaaGreatDoor.tmc
