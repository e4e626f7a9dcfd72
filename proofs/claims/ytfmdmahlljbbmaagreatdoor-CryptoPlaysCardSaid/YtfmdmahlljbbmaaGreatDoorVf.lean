/- A vault in memory. -/
import Derived.Test.YtfmdmahlljbbmaaGreatDoorVe
import Derived.Maps.OwnSet
import Derived.StringKeys
namespace Go.Proofs.YtfmdmahlljbbmaaGreatDoor.vtc
open Go.RowKit Go.Proofs.YtfmdmahlljbbmaaGreatDoor.tlvc Go.Proofs.YtfmdmahlljbbmaaGreatDoor.tmc
set_option linter.unusedVariables false
/-- Blocks outside of S are kept. -/
structure Off (S : Nat → Prop) (w w' : World) : Prop where
  os : w'.os = w.os
  tape : w'.tape = w.tape
  output : w'.output = w.output
  size : w.heap.size ≤ w'.heap.size
  block : ∀ i, i < w.heap.size → ¬ S i → w'.heap[i]? = w.heap[i]?
theorem Off.refl (S : Nat → Prop) (w : World) : Off S w w := ⟨rfl, rfl, rfl, Nat.le_refl _, fun _ _ _ => rfl⟩
theorem Off.trans {S S' S'' : Nat → Prop} {a b c : World} (h : Off S a b) (k : Off S' b c) (h1 : ∀ g, g < a.heap.size → S g → S'' g) (h2 : ∀ g, g < a.heap.size → S' g → S'' g) : Off S'' a c :=
  ⟨k.os.trans h.os, k.tape.trans h.tape, k.output.trans h.output, Nat.le_trans h.size k.size, fun i hi hn => (k.block i (Nat.lt_of_lt_of_le hi h.size) (fun e => hn (h2 i hi e))).trans (h.block i hi (fun e => hn (h1 i hi e)))⟩
theorem Off.mono {S S' : Nat → Prop} {a b : World} (h : Off S a b) (h1 : ∀ g, g < a.heap.size → S g → S' g) : Off S' a b := ⟨h.os, h.tape, h.output, h.size, fun i hi hn => h.block i hi (fun e => hn (h1 i hi e))⟩
theorem Off.of_below {S : Nat → Prop} {w w' : World} (h : Below w.heap.size w w') : Off S w w' := ⟨h.os, h.tape, h.output, h.size, fun i hi _ => h.block i hi⟩
theorem Off.below {S : Nat → Prop} {w w' : World} (h : Off S w w') {B : Nat} (hB : ∀ g, S g → B ≤ g) (hs : B ≤ w.heap.size) : Below B w w' := ⟨h.os, h.tape, h.output, h.size, fun i hi => h.block i (by omega) (fun e => by have := hB i e; omega)⟩
theorem Off.stays {S B : Nat → Prop} {w w' : World} (h : Off S w w') (hB : ∀ g, g < w.heap.size → B g → ¬ S g) : Stays B w w' := ⟨h.size, fun p hp hl => cell_same (h.block _ hl (hB _ hl hp))⟩
theorem Off.set {S : Nat → Prop} (w : World) (g i : Nat) (v : Value) (hS : S g) : Off S w (w.setCell ⟨g, i, none⟩ v) :=
  ⟨rfl, rfl, rfl, by rw [set_size]; exact Nat.le_refl _, fun k _ hk => set_heap_other _ _ _ _ _ (fun e => hk (e ▸ hS))⟩
theorem Off.set4 {S : Nat → Prop} (w : World) (g i : Nat) (y0 y1 y2 y3 : Value) (hS : S g) : Off S w (set4 w g i y0 y1 y2 y3) :=
  ⟨rfl, rfl, rfl, by rw [set4_size]; exact Nat.le_refl _, fun k _ hk => set4_other _ _ _ _ _ _ _ _ (fun e => hk (e ▸ hS))⟩
theorem Off.grown {S : Nat → Prop} {w w' : World} {row : Option Nat} (h : w.grownBy w' row) (hS : ∀ g, row = some g → S g) : Off S w w' :=
  ⟨h.os, h.tape, h.output, h.size, fun i hi hn => h.block i hi (fun e => hn (hS i e.symm))⟩
theorem own_same {w w' : World} {base : Nat} {e : TypeId} {size : Nat} {v : Value} {n : Nat} {xs : List Value} (h : w.ownsRow base e size v n xs) (hg : ∀ g, v.ownBlock = some g → w'.heap[g]? = w.heap[g]?) : w'.ownsRow base e size v n xs := by
  refine ⟨h.1, ?_⟩
  rcases h.2 with h | ⟨g, cap, cur, h1, h2, h3, rest⟩
  · exact .inl h
  · exact .inr ⟨g, cap, cur, h1, h2, (hg g (by rw [h1]; rfl)).trans h3, rest⟩
theorem map_same {H : Type} {P : Program} {k : TypeId} {R : Value → Option (DataW H × List MemPlace)} {w w' : World} {b n : Nat} {D : DataW H} (h : w.ownsMap P k R b n D) (e : w'.heap[b]? = w.heap[b]?) : w'.ownsMap P k R b n D := by
  obtain ⟨es, clock, hb, r⟩ := h
  exact ⟨es, clock, e.trans hb, r⟩
/-- The blocks of a vault that are written: its box, its map, its list. -/
def Mut (vb mb : Nat) (ob : Option Nat) (g : Nat) : Prop := g = vb ∨ g = mb ∨ ob = some g
/-- In the world w a vault lies at vb; all that it has lies in blocks of S. -/
structure Vlt (S : Nat → Prop) (w : World) (vb mb : Nat) (ob : Option Nat) (L : List Tm) : Prop where
  mem : ∃ (A : Option Addr) (c : Nat) (D : DataW Unit) (cs : List Value), w.heap[vb]? = some (.cells #[.slice A L.length c, .map (some mb)] 73) ∧ w.ownsRow 0 57 4 (.slice A L.length c) L.length cs ∧ (Value.slice A 0 0).ownBlock = ob ∧
    Quads (fun g => S g ∧ ¬ Mut vb mb ob g) w L cs ∧ w.ownsMap Tryz.prog 9 (plainElem Tryz.prog 3) mb L.length D ∧ MapOf D L
  all : ∀ g, Mut vb mb ob g → S g
  apart : vb ≠ mb ∧ ob ≠ some vb ∧ ob ≠ some mb
  once : Once L
  closed : Closed L
  right : ∀ t ∈ L, rightF t 0 = true
  fit : ∀ t ∈ L, FitT t
  len : L.length ≤ 4096
theorem Vlt.lt {S : Nat → Prop} {w : World} {vb mb : Nat} {ob : Option Nat} {L : List Tm} (h : Vlt S w vb mb ob L) {g : Nat} (hg : Mut vb mb ob g) : g < w.heap.size := by
  obtain ⟨A, c, D, cs, h1, h2, h3, h4, h5, h6⟩ := h.mem
  rcases hg with rfl | rfl | hg
  · exact (Array.getElem?_eq_some_iff.1 h1).1
  · exact h5.lt
  · exact (h2.lt g ((own_le A _ _).trans (h3.trans hg))).2
theorem Vlt.mono {S S' : Nat → Prop} {w : World} {vb mb : Nat} {ob : Option Nat} {L : List Tm} (h : Vlt S w vb mb ob L) (hS : ∀ g, S g → S' g) : Vlt S' w vb mb ob L := by
  obtain ⟨A, c, D, cs, h1, h2, h3, h4, h5, h6⟩ := h.mem
  exact ⟨⟨A, c, D, cs, h1, h2, h3, h4.mono fun g hg => ⟨hS g hg.1, hg.2⟩, h5, h6⟩, fun g hg => hS g (h.all g hg), h.apart, h.once, h.closed, h.right, h.fit, h.len⟩
theorem Quads.bound {S : Nat → Prop} {w : World} : ∀ {ks : List Tm} {cs : List Value}, Quads S w ks cs → Quads (fun g => S g ∧ g < w.heap.size) w ks cs
  | [], _, h => h
  | k :: ks, _, ⟨c0, c1, c2, c3, r, e, hk, hr⟩ => ⟨c0, c1, c2, c3, r, e, TmC.bound k c0 c1 c2 c3 hk, Quads.bound hr⟩
theorem Vlt.bound {S : Nat → Prop} {w : World} {vb mb : Nat} {ob : Option Nat} {L : List Tm} (h : Vlt S w vb mb ob L) : Vlt (fun g => S g ∧ g < w.heap.size) w vb mb ob L := by
  obtain ⟨A, c, D, cs, h1, h2, h3, h4, h5, h6⟩ := h.mem
  exact ⟨⟨A, c, D, cs, h1, h2, h3, (Quads.bound h4).mono fun g hg => ⟨⟨hg.1.1, hg.2⟩, hg.1.2⟩, h5, h6⟩, fun g hg => ⟨h.all g hg, h.lt hg⟩, h.apart, h.once, h.closed, h.right, h.fit, h.len⟩
/-- It stays while other blocks are written. -/
theorem Vlt.off {S S' : Nat → Prop} {w w' : World} {vb mb : Nat} {ob : Option Nat} {L : List Tm} (h : Vlt S w vb mb ob L) (k : Off S' w w') (hS : ∀ g, g < w.heap.size → S g → ¬ S' g) : Vlt S w' vb mb ob L := by
  obtain ⟨A, c, D, cs, h1, h2, h3, h4, h5, h6⟩ := h.mem
  have keep : ∀ g, Mut vb mb ob g → w'.heap[g]? = w.heap[g]? := fun g hg => k.block g (h.lt hg) (hS g (h.lt hg) (h.all g hg))
  exact ⟨⟨A, c, D, cs, (keep vb (.inl rfl)).trans h1, own_same h2 fun g hg => keep g (.inr (.inr (by rw [← h3, ← own_le A L.length c]; exact hg))), h3, h4.stays (k.stays fun g hl hg => hS g hl hg.1), map_same h5 (keep mb (.inr (.inl rfl))), h6⟩, h.all, h.apart, h.once, h.closed, h.right, h.fit, h.len⟩
theorem Vlt.below {S : Nat → Prop} {w w' : World} {vb mb : Nat} {ob : Option Nat} {L : List Tm} (h : Vlt S w vb mb ob L) (hb : Below w.heap.size w w') : Vlt S w' vb mb ob L :=
  h.off (S' := fun _ => False) (Off.of_below hb) (fun _ _ _ e => e)
/-- A number that a vault answers: -1 for none. -/
def numI (t : Tm) (L : List Tm) : Int := match findV t L with
  | some i => i
  | none => -1
theorem numI_some {t : Tm} {L : List Tm} {i : Nat} (h : findV t L = some i) : numI t L = i := by unfold numI; rw [h]
theorem numI_none {t : Tm} {L : List Tm} (h : findV t L = none) : numI t L = -1 := by unfold numI; rw [h]
/-- Who has a term has its kids. -/
theorem kids_missing {L : List Tm} (hc : Closed L) {o m : Int} {d : List Int} {ks : List Tm} {k : Tm} (hk : k ∈ ks) (h : k ∉ L) : findV (.mk o m d ks) L = none := by
  refine findV_none.2 fun e => h ?_
  exact closed_kids hc e k hk
/-- The cells of a vault's box. -/
theorem Vlt.cells {S : Nat → Prop} {w : World} {vb mb : Nat} {ob : Option Nat} {L : List Tm} (h : Vlt S w vb mb ob L) : ∃ A c, w.cell? ⟨vb, 0, none⟩ = some (.slice A L.length c) ∧ w.cell? ⟨vb, 1, none⟩ = some (.map (some mb)) ∧ L.length ≤ c ∧ c ≤ 9223372036854775807 ∧ (Value.slice A 0 0).ownBlock = ob := by
  obtain ⟨A, c, D, cs, h1, h2, h3, h4, h5, h6⟩ := h.mem
  obtain ⟨A', c', e, g1, g2, _⟩ := own4_shape h2
  cases e
  exact ⟨A, c, (Lib.cell_of_heap h1 _).trans rfl, (Lib.cell_of_heap h1 _).trans rfl, g1, by unfold maxLen at g2; omega, h3⟩
theorem key_of (xs : List Int) (h : xs.length ≤ 1000000) : keyOf Tryz.prog 9 (.string (strOfNums xs)) = some (kl xs) :=
  Go.WideMaps.keyOf_string_mk Tryz.underlying9 (by rw [strOfNums_size]; unfold maxLen; omega)
theorem zero_int (w : World) : (zeroValue 3).run Tryz.prog w = .ok (.int .i64 0) w := by
  simp [go_sem]
theorem atKey_none {H : Type} {D : DataW H} {k : Lit} (hD : Maps.IsMap D) (h : Maps.has D k = false) (z : DataW H) : D.atKey k z = z := by
  obtain ⟨es, rfl⟩ := hD
  show (match es.find? (fun p => p.1.sameKey k) with | some p => p.2 | none => z) = z
  rw [Maps.has_eq, List.any_eq_false] at h
  rw [List.find?_eq_none.2 h]
/-- A lookup. -/
theorem Vlt.look {S : Nat → Prop} {w : World} {vb mb : Nat} {ob : Option Nat} {L : List Tm} (h : Vlt S w vb mb ob L) {t : Tm} (hk : KidsIn L t) (hf : FitT t) (hl : (keyT L t).length ≤ 1000000) :
    (Instr.lookup 71 (.map (some mb)) (.string (strOfNums (keyT L t))) true).run Tryz.prog w = .ok (.tuple #[.int .i64 (((findV t L).getD 0 : Nat) : Int), .bool (findV t L).isSome]) w := by
  obtain ⟨A, c, D, cs, h1, h2, h3, h4, h5, h6⟩ := h.mem
  obtain ⟨v, ps, hrun, hv⟩ := h5.look_ok (Maps.string_keyed Tryz.underlying9) Tryz.underlying71 (zero_int w) (zd := .lit (.int .i64 0)) (zp := []) (plainElem_int Tryz.underlying3 (by decide)) (key_of _ hl)
  obtain ⟨x, rfl, hx, _⟩ := plainElem_int_inv Tryz.underlying3 hv
  rw [hrun]
  rcases h6.look h.closed h.fit hk hf with ⟨i, e1, e2, e3⟩ | ⟨e1, e2⟩
  · rw [e3] at hx
    simp at hx
    rw [e1, e2, ← hx.1]
    rfl
  · rw [atKey_none h6.map e2] at hx
    simp at hx
    rw [e1, e2, ← hx.1]
    rfl
/-- A term's kid, where it lies. -/
theorem kidv {B : Nat → Prop} {w : World} {o m : Int} {d : List Int} {ks : List Tm} {c0 c1 c2 : Value} {K : Option Addr} {lk ck : Nat} (h : TmC B w (.mk o m d ks) c0 c1 c2 (.slice K lk ck)) :
    ks.length = lk ∧ lk ≤ ck ∧ ck ≤ 9223372036854775807 ∧ ∀ i, i < lk → ∃ k g off d0 d1 d2 d3, ks[i]? = some k ∧ K = some ⟨g, off, none⟩ ∧ w.cell? ⟨g, off + i * 4, none⟩ = some d0 ∧ w.cell? ⟨g, off + i * 4 + 1, none⟩ = some d1 ∧ w.cell? ⟨g, off + i * 4 + 2, none⟩ = some d2 ∧ w.cell? ⟨g, off + i * 4 + 3, none⟩ = some d3 ∧ TmC B w k d0 d1 d2 d3 := by
  unfold TmC at h
  obtain ⟨_, _, _, _, _, K', ck', e, h1, h2, h3⟩ := h
  cases e
  refine ⟨rfl, h1, by unfold maxLen at h2; omega, fun i hi => ?_⟩
  obtain ⟨g, off, rfl, hg, hB, hks⟩ := h3 (by omega)
  obtain ⟨d0, d1, d2, d3, e0, e1, e2, e3, hd⟩ := hks.at i hi
  exact ⟨ks[i], g, off, d0, d1, d2, d3, List.getElem?_eq_getElem hi, rfl, e0, e1, e2, e3, hd⟩
end Go.Proofs.YtfmdmahlljbbmaaGreatDoor.vtc
