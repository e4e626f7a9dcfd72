/- What a put's rounds keep. -/
import Derived.Test.YtfmdmahlljbbmaaGreatDoorVg
namespace Go.Proofs.YtfmdmahlljbbmaaGreatDoor.vtc
open Go.RowKit Go.Proofs.YtfmdmahlljbbmaaGreatDoor.tlvc Go.Proofs.YtfmdmahlljbbmaaGreatDoor.tmc
set_option linter.unusedVariables false
theorem puts_snoc : ∀ (ks : List Tm) (i : Nat) (k : Tm) (L : List Tm), ks[i]? = some k → putsV (ks.take (i + 1)) L = putV k (putsV (ks.take i) L)
  | [], i, k, L, h => by simp at h
  | x :: ks, 0, k, L, h => by
    obtain rfl : x = k := by simpa using h
    rw [List.take_succ_cons, List.take_zero, List.take_zero, putsV_cons, putsV_nil, putsV_nil]
  | x :: ks, i + 1, k, L, h => by
    rw [List.take_succ_cons, List.take_succ_cons, putsV_cons, putsV_cons]
    exact puts_snoc ks i k _ (by simpa using h)
/-- Where the vault's memory lies in the middle of a put. -/
def Room (w : World) (S : Nat → Prop) (A : Option Addr) (v6 : Value) (g : Nat) : Prop := (S g ∨ w.heap.size + 2 ≤ g) ∧ some g ≠ (Value.slice A 0 0).ownBlock ∧ some g ≠ v6.ownBlock
structure PI (w : World) (S : Nat → Prop) (vb mb : Nat) (ob0 : Option Nat) (o m : Int) (tb : Obj) (Lx : List Tm) (zs : List Int) (us : List Tm) (ob : Option Nat) (A : Option Addr) (c : Nat) (v6 : Value) (wx : World) : Prop where
  bd : ∀ g, S g → g < w.heap.size
  vlt : Vlt (Room w S A v6) wx vb mb ob Lx
  hob : ob = ob0 ∨ ∃ g, ob = some g ∧ w.heap.size ≤ g
  off : Off (Mut vb mb ob0) w wx
  box : wx.heap[w.heap.size]? = some tb
  own : wx.heap[w.heap.size + 1]? = some (.cells #[.int .i64 o, .int .i64 m, .slice none 0 0, .slice A us.length c] 57)
  row : ∃ cs, wx.ownsRow (w.heap.size + 2) 57 4 (.slice A us.length c) us.length cs ∧ Quads (fun g => Room w S A v6 g ∧ ¬ Mut vb mb ob g) wx us cs
  nums : wx.ownsRow (w.heap.size + 2) 3 1 v6 zs.length (ivals zs)
  ne : ∀ g, (Value.slice A 0 0).ownBlock = some g → v6.ownBlock ≠ some g
section
variable {w : World} {S : Nat → Prop} {vb mb : Nat} {ob0 : Option Nat} {o m : Int} {tb : Obj} {Lx : List Tm} {zs : List Int} {us : List Tm} {ob : Option Nat} {A : Option Addr} {c : Nat} {v6 : Value} {wx : World}
theorem PI.size (h : PI w S vb mb ob0 o m tb Lx zs us ob A c v6 wx) : w.heap.size + 2 ≤ wx.heap.size := (Array.getElem?_eq_some_iff.1 h.own).1
theorem PI.kb (h : PI w S vb mb ob0 o m tb Lx zs us ob A c v6 wx) {g : Nat} (e : (Value.slice A 0 0).ownBlock = some g) : w.heap.size + 2 ≤ g ∧ g < wx.heap.size := by
  obtain ⟨cs, h1, _⟩ := h.row
  exact h1.lt g ((own_le A _ _).trans e)
theorem PI.nb (h : PI w S vb mb ob0 o m tb Lx zs us ob A c v6 wx) {g : Nat} (e : v6.ownBlock = some g) : w.heap.size + 2 ≤ g ∧ g < wx.heap.size := h.nums.lt g e
/-- The vault's own blocks are none of the call's. -/
theorem PI.mut (h : PI w S vb mb ob0 o m tb Lx zs us ob A c v6 wx) {g : Nat} (hg : Mut vb mb ob g) : g ≠ w.heap.size ∧ g ≠ w.heap.size + 1 ∧ some g ≠ (Value.slice A 0 0).ownBlock ∧ some g ≠ v6.ownBlock := by
  obtain ⟨h1, h2, h3⟩ := h.vlt.all g hg
  have hb : g < w.heap.size ∨ w.heap.size + 2 ≤ g := h1.imp (h.bd g) id
  exact ⟨by omega, by omega, h2, h3⟩
/-- Below the call they are what they were. -/
theorem PI.old (h : PI w S vb mb ob0 o m tb Lx zs us ob A c v6 wx) {g : Nat} (hl : g < w.heap.size) (hg : Mut vb mb ob g) : Mut vb mb ob0 g := by
  rcases hg with hg | hg | hg
  · exact .inl hg
  · exact .inr (.inl hg)
  · rcases h.hob with e | ⟨b, e, hb⟩
    · exact .inr (.inr (e ▸ hg))
    · rw [e] at hg; cases hg; omega
theorem PI.below {wy : World} (h : PI w S vb mb ob0 o m tb Lx zs us ob A c v6 wx) (hb : Below wx.heap.size wx wy) : PI w S vb mb ob0 o m tb Lx zs us ob A c v6 wy := by
  have hz := h.size
  obtain ⟨cs, h1, h2⟩ := h.row
  exact ⟨h.bd, h.vlt.below hb, h.hob, h.off.trans (Off.of_below (S := Mut vb mb ob0) hb) (fun _ _ e => e) (fun _ _ e => e), (hb.block _ (by omega)).trans h.box, (hb.block _ (by omega)).trans h.own, ⟨cs, own_below h1 hb, h2.stays (stays_below hb _)⟩, own_below h.nums hb, h.ne⟩
theorem PI.call {ob5 : Option Nat} {L5 : List Tm} {w5 : World} (h : PI w S vb mb ob0 o m tb Lx zs us ob A c v6 wx) (hV : Vlt (fun g => Room w S A v6 g ∨ wx.heap.size ≤ g) w5 vb mb ob5 L5) (hob5 : ob5 = ob ∨ ∃ g, ob5 = some g ∧ wx.heap.size ≤ g) (hoff : Off (Mut vb mb ob) wx w5) : PI w S vb mb ob0 o m tb L5 zs us ob5 A c v6 w5 := by
  have hz := h.size
  obtain ⟨cs, h1, h2⟩ := h.row
  refine ⟨h.bd, hV.mono fun g hg => ?_, ?_, h.off.trans hoff (fun _ _ e => e) (fun g hl e => h.old hl e), ?_, ?_, ⟨cs, ?_, ?_⟩, ?_, h.ne⟩
  · rcases hg with hg | hg
    · exact hg
    · exact ⟨.inr (by omega), fun e => by have := h.kb e.symm; omega, fun e => by have := h.nb e.symm; omega⟩
  · rcases hob5 with e | ⟨g, e, hg⟩
    · rw [e]; exact h.hob
    · exact .inr ⟨g, e, by omega⟩
  · exact (hoff.block _ (by omega) (fun e => (h.mut e).1 rfl)).trans h.box
  · exact (hoff.block _ (by omega) (fun e => (h.mut e).2.1 rfl)).trans h.own
  · exact own_same h1 fun g hg => hoff.block g (h1.lt g hg).2 (fun e => (h.mut e).2.2.1 (by rw [← own_le A us.length c]; exact hg.symm))
  · refine Quads.below2 (hoff.stays fun g _ hg => hg.2) (fun g hg hl => ⟨hg.1, ?_⟩) h2
    rintro (e | e | e)
    · exact hg.2 (.inl e)
    · exact hg.2 (.inr (.inl e))
    · rcases hob5 with e5 | ⟨b, e5, hb⟩
      · exact hg.2 (.inr (.inr (e5 ▸ e)))
      · rw [e5] at e; cases e; omega
  · exact own_same h.nums fun g hg => hoff.block g (h.nums.lt g hg).2 (fun e => (h.mut e).2.2.2 hg.symm)
/-- One number more. -/
theorem PI.num (h : PI w S vb mb ob0 o m tb Lx zs us ob A c v6 wx) (x : Int) (hx : I64 x) (hn : zs.length ≤ 10000) :
    ∃ v' w', (Builtin.append_ #[78, 78] 78 #[v6, .slice (some ⟨wx.heap.size, 0, none⟩) 1 1]).run Tryz.prog (wx.alloc (.cells #[.int .i64 x] 3)) = .ok v' w' ∧ PI w S vb mb ob0 o m tb Lx (zs ++ [x]) us ob A c v' w' := by
  have hz := h.size
  obtain ⟨v', w', hrun, g1, g2, g3⟩ := app_int wx (w.heap.size + 2) v6 zs.length (ivals zs) h.nums x hx (by omega) hz
  obtain ⟨cs, h1, h2⟩ := h.row
  have hal : Below wx.heap.size wx (wx.alloc (.cells #[.int .i64 x] 3)) := below_new _ _
  have hoff : Off (fun g => v6.ownBlock = some g) wx w' := (Off.of_below (S := fun g => v6.ownBlock = some g) hal).trans (Off.grown (S := fun g => v6.ownBlock = some g) g2 fun g e => e) (fun _ _ e => e) (fun _ _ e => e)
  have hne : ∀ g, g < wx.heap.size → some g ≠ v6.ownBlock → some g ≠ v'.ownBlock := fun g hl hg e => by
    rcases g3 with e3 | ⟨b, e3, hb⟩
    · rw [e3] at e; exact hg e
    · rw [e3] at e; cases e; omega
  refine ⟨v', w', hrun, h.bd, ?_, h.hob, ?_, ?_, ?_, ⟨cs, ?_, ?_⟩, ?_, ?_⟩
  · exact ((h.vlt.bound).off hoff fun g hl hg e => hg.1.2.2 e.symm).mono fun g hg => ⟨hg.1.1, hg.1.2.1, hne g hg.2 hg.1.2.2⟩
  · exact h.off.trans hoff (fun _ _ e => e) (fun g hl e => by have := h.nb e; omega)
  · exact (hoff.block _ (by omega) (fun e => by have := h.nb e; omega)).trans h.box
  · exact (hoff.block _ (by omega) (fun e => by have := h.nb e; omega)).trans h.own
  · exact own_same h1 fun g hg => hoff.block g (h1.lt g hg).2 (h.ne g ((own_le A _ _).symm.trans hg))
  · exact Quads.below2 (hoff.stays fun g _ hg e => hg.1.2.2 e.symm) (fun g hg hl => ⟨⟨hg.1.1, hg.1.2.1, hne g hl hg.1.2.2⟩, hg.2⟩) h2
  · rw [List.length_append, ivals_append]; exact g1
  · intro g hg e
    rcases g3 with e3 | ⟨b, e3, hb⟩
    · exact h.ne g hg (e3.symm.trans e)
    · rw [e3] at e
      cases e
      have := h.kb hg
      omega
/-- A term of the vault, where it lies. -/
theorem Vlt.at {S : Nat → Prop} {w : World} {vb mb : Nat} {ob : Option Nat} {L : List Tm} (h : Vlt S w vb mb ob L) : ∃ A c, w.cell? ⟨vb, 0, none⟩ = some (.slice A L.length c) ∧ w.cell? ⟨vb, 1, none⟩ = some (.map (some mb)) ∧ L.length ≤ c ∧ c ≤ 9223372036854775807 ∧ (Value.slice A 0 0).ownBlock = ob ∧
    ∀ j k, L[j]? = some k → ∃ g d0 d1 d2 d3, A = some ⟨g, 0, none⟩ ∧ w.cell? ⟨g, j * 4, none⟩ = some d0 ∧ w.cell? ⟨g, j * 4 + 1, none⟩ = some d1 ∧ w.cell? ⟨g, j * 4 + 2, none⟩ = some d2 ∧ w.cell? ⟨g, j * 4 + 3, none⟩ = some d3 ∧ TmC (fun g => S g ∧ ¬ Mut vb mb ob g) w k d0 d1 d2 d3 := by
  obtain ⟨A, c, D, cs, h1, h2, h3, h4, h5, h6⟩ := h.mem
  obtain ⟨A', c', e, g1, g2, g3⟩ := own4_shape h2
  cases e
  refine ⟨A, c, (Lib.cell_of_heap h1 _).trans rfl, (Lib.cell_of_heap h1 _).trans rfl, g1, by unfold maxLen at g2; omega, h3, fun j k hj => ?_⟩
  have hjl := (List.getElem?_eq_some_iff.1 hj).1
  obtain ⟨g, rfl, _, hgl⟩ := g3 (by omega)
  have hk := (Quads.kids (g := g) (off := 0) h4 fun i u hu => by
    have hi := (List.getElem?_eq_some_iff.1 hu).1
    rw [Nat.zero_add, h2.cellAt i (by rw [← h2.1]; exact hi)]
    exact hu).at j hjl
  obtain ⟨d0, d1, d2, d3, e0, e1, e2, e3, hd⟩ := hk
  rw [Nat.zero_add] at e0 e1 e2 e3
  rw [(List.getElem?_eq_some_iff.1 hj).2] at hd
  exact ⟨g, d0, d1, d2, d3, rfl, e0, e1, e2, e3, hd⟩
/-- One kid more: the list, and where it is noted. -/
theorem PI.kid (h : PI w S vb mb ob0 o m tb Lx zs us ob A c v6 wx) (hn : us.length ≤ 10000) {k : Tm} {d0 d1 d2 d3 : Value} (hk : TmC (fun g => Room w S A v6 g ∧ ¬ Mut vb mb ob g) wx k d0 d1 d2 d3) :
    ∃ A' c' w', (Builtin.append_ #[22, 22] 22 #[.slice A us.length c, .slice (some ⟨wx.heap.size, 0, none⟩) 1 1]).run Tryz.prog (wx.alloc (.cells #[d0, d1, d2, d3] 57)).drew = .ok (.slice A' (us.length + 1) c') w' ∧ w'.frozen? ⟨w.heap.size + 1, 3, none⟩ = false ∧ (∃ v, w'.cell? ⟨w.heap.size + 1, 3, none⟩ = some v) ∧ PI w S vb mb ob0 o m tb Lx zs (us ++ [k]) ob A' c' v6 (w'.setCell ⟨w.heap.size + 1, 3, none⟩ (.slice A' (us.length + 1) c')) := by
  have hz := h.size
  obtain ⟨cs, h1, h2⟩ := h.row
  obtain ⟨o0, o1, o2, o3⟩ := hk.one
  have hal : Below wx.heap.size wx (wx.alloc (.cells #[d0, d1, d2, d3] 57)).drew := (below_new _ _).drew
  have hq : (wx.alloc (.cells #[d0, d1, d2, d3] 57)).drew.heap[wx.heap.size]? = some (.cells #[d0, d1, d2, d3] 57) := heap_new_ _ _
  have hzal : wx.heap.size < (wx.alloc (.cells #[d0, d1, d2, d3] 57)).drew.heap.size := (Array.getElem?_eq_some_iff.1 hq).1
  obtain ⟨v', w', hr, ho, hg, hob⟩ := app_terms (wx.alloc (.cells #[d0, d1, d2, d3] 57)).drew (w.heap.size + 2) (.slice A us.length c) us.length cs (own_below h1 hal) ⟨wx.heap.size, 0, none⟩ 1 1 [d0, d1, d2, d3] rfl (fun u hu => by
    simp only [List.mem_cons, List.not_mem_nil, or_false] at hu
    rcases hu with rfl | rfl | rfl | rfl <;> assumption) (fun j u hu => by
    rw [Addr.add_lit, Nat.zero_add, Lib.cell_of_heap hq, ← hu]
    simp) (by omega) (by omega)
  obtain ⟨A', c', rfl, _⟩ := own4_shape ho
  rw [own_le A] at hob hg
  rw [own_le A'] at hob
  have hoff : Off (fun g => (Value.slice A 0 0).ownBlock = some g) wx w' := (Off.of_below (S := fun g => (Value.slice A 0 0).ownBlock = some g) hal).trans (Off.grown (S := fun g => (Value.slice A 0 0).ownBlock = some g) hg fun g e => e) (fun _ _ e => e) (fun _ _ e => e)
  have hown' := (hoff.block (w.heap.size + 1) (by omega) (fun e => by have := h.kb e; omega)).trans h.own
  have hne : ∀ g, g < wx.heap.size → some g ≠ (Value.slice A 0 0).ownBlock → some g ≠ (Value.slice A' 0 0).ownBlock := fun g hl hg e => by
    rcases hob with e3 | ⟨b, e3, hb⟩
    · rw [e3] at e; exact hg e
    · rw [e3] at e; cases e; omega
  have hset := Off.set (S := fun g => g = w.heap.size + 1) w' (w.heap.size + 1) 3 (.slice A' (us.length + 1) c') rfl
  have hoff2 : Off (fun g => (Value.slice A 0 0).ownBlock = some g ∨ g = w.heap.size + 1) wx (w'.setCell ⟨w.heap.size + 1, 3, none⟩ (.slice A' (us.length + 1) c')) := hoff.trans hset (fun _ _ e => .inl e) (fun _ _ e => .inr e)
  have hroom : ∀ g, Room w S A v6 g → ¬ ((Value.slice A 0 0).ownBlock = some g ∨ g = w.heap.size + 1) := fun g hg e => by
    rcases e with e | e
    · exact hg.2.1 e.symm
    · rcases hg.1 with h1 | h1
      · have := h.bd g h1; omega
      · omega
  have hst : Stays (fun g => Room w S A v6 g ∧ ¬ Mut vb mb ob g) wx (w'.setCell ⟨w.heap.size + 1, 3, none⟩ (.slice A' (us.length + 1) c')) := hoff2.stays fun g _ hg => hroom g hg.1
  have hto : ∀ g, (Room w S A v6 g ∧ ¬ Mut vb mb ob g) → g < wx.heap.size → Room w S A' v6 g ∧ ¬ Mut vb mb ob g := fun g hg hl => ⟨⟨hg.1.1, hne g hl hg.1.2.1, hg.1.2.2⟩, hg.2⟩
  refine ⟨A', c', w', hr, Lib.frozen_of_heap hown' _, ⟨.slice A us.length c, (Lib.cell_of_heap hown' _).trans rfl⟩, h.bd, ?_, h.hob, ?_, ?_, ?_, ⟨cs ++ [d0, d1, d2, d3], ?_, ?_⟩, ?_, ?_⟩
  · exact ((h.vlt.bound).off hoff2 fun g hl hg => hroom g hg.1).mono fun g hg => ⟨hg.1.1, hne g hg.2 hg.1.2.1, hg.1.2.2⟩
  · exact h.off.trans hoff2 (fun _ _ e => e) (fun g hl e => by
      rcases e with e | e
      · have := h.kb e; omega
      · omega)
  · exact (hoff2.block _ (by omega) (fun e => by
      rcases e with e | e
      · have := h.kb e; omega
      · omega)).trans h.box
  · rw [List.length_append]
    exact set_heap _ _ 3 _ _ _ _ hown'
  · rw [List.length_append]
    exact own_same ho fun g hg => hset.block g (ho.lt g hg).2 (fun e => by
      have hg : (Value.slice A' 0 0).ownBlock = some g := (own_le A' (us.length + 1) c').symm.trans hg
      rcases hob with e3 | ⟨b, e3, hb⟩
      · rw [e3] at hg; have := h.kb hg; omega
      · rw [e3] at hg; cases hg; omega)
  · exact Quads.snoc (TmC.below2 hst hk hto) (Quads.below2 hst hto h2)
  · exact own_same h.nums fun g hg => hoff2.block g (h.nums.lt g hg).2 (fun e => by
      rcases e with e | e
      · exact h.ne g e hg
      · have := h.nb hg; omega)
  · intro g hg e
    rcases hob with e3 | ⟨b, e3, hb⟩
    · rw [e3] at hg; exact h.ne g hg e
    · rw [e3] at hg
      cases hg
      have := h.nb e
      omega
end
end Go.Proofs.YtfmdmahlljbbmaaGreatDoor.vtc
