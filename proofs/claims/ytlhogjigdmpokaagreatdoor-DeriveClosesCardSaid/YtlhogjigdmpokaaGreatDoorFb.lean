/- What a search is in memory: its rows of truths, its ways, the lists of ways by what they need; and what each store leaves of it. What is had from then on: the program's have. The ways that need a number are told that it is had: the program's tell. Mentions: what it answers lies in memory of its own. Numbers of terms; lists grown and joined; a number sought in a rising list: what derive calls. -/
import Derived.Test.YtlhogjigdmpokaaGreatDoorFa
import Derived.Test.YtlhogjigdmpokaaGreatDoorUc
import Derived.Test.YtlhogjigdmpokaaGreatDoorProg
import Derived.Deep.LoopGhost
import Derived.Test.YtlhogjigdmpokaaGreatDoorUf
import Derived.Sort.OwnSortedInts
import Derived.Shelf.Sort.Plain
import Derived.Shelf.Slices.In.SortNone
import Derived.Shelf.Slices.CompactI
import Derived.Lib.RowBridge
import Derived.Test.YtlhogjigdmpokaaGreatDoorUd
import Derived.Lib.AppendZeros
namespace Go.Proofs.YtlhogjigdmpokaaGreatDoor.vtc
open Go.RowKit Go.Proofs.YtlhogjigdmpokaaGreatDoor.tlvc Go.Proofs.YtlhogjigdmpokaaGreatDoor.tmc
set_option linter.unusedVariables false
/-- What a block is for. -/
inductive Tag where
  | other
  | srch
  | had
  | told
  | tab
  | row (i : Nat)
  | stp (j : Nat)
/-- A way, and where it lies. -/
structure Plc where
  way : Way
  blk : Nat
  gA : Option Addr
  gc : Nat
/-- The pointers to some ways. -/
def ptrs (PS : List Plc) (l : List Nat) : List Value := l.map fun j => Value.pointer (some ⟨(PS.map Plc.blk).getD j 0, 0, none⟩)
theorem ptrs_len (PS : List Plc) (l : List Nat) : (ptrs PS l).length = l.length := List.length_map ..
theorem ptrs_more {PS : List Plc} {l : List Nat} (h : ∀ j ∈ l, j < PS.length) (p : Plc) : ptrs (PS ++ [p]) l = ptrs PS l := by
  unfold ptrs
  refine List.map_congr_left fun j hj => ?_
  rw [List.map_append, List.getD_eq_getElem?_getD, List.getElem?_append_left (by rw [List.length_map]; exact h j hj), ← List.getD_eq_getElem?_getD]
theorem ptrs_at {PS : List Plc} {l : List Nat} {k j : Nat} {p : Plc} (hk : l[k]? = some j) (hj : PS[j]? = some p) : (ptrs PS l)[k]? = some (.pointer (some ⟨p.blk, 0, none⟩)) := by
  unfold ptrs
  rw [List.getElem?_map, hk]
  show some (Value.pointer (some ⟨(PS.map Plc.blk).getD j 0, 0, none⟩)) = _
  rw [List.getD_eq_getElem?_getD, List.getElem?_map, hj]
  rfl
theorem ins_block {w w' : World} {A : Option Addr} {n : Nat} {xs : List Int} (h : Ins w A n xs) (hs : w.heap.size ≤ w'.heap.size) (hk : 0 < n → ∀ g off, A = some ⟨g, off, none⟩ → w'.heap[g]? = w.heap[g]?) : Ins w' A n xs :=
  ⟨h.1, h.2.1, fun hn => by
    obtain ⟨b, off, e, hb, hc⟩ := h.2.2 hn
    exact ⟨b, off, e, by omega, fun j hj => (cell_same (p := ⟨b, off + j, none⟩) (hk hn b off e)).trans (hc j hj)⟩⟩
theorem ins_cells {w : World} {A : Option Addr} {n : Nat} {xs : List Int} (h : Ins w A n xs) (hn : 0 < n) {g off : Nat} (e : A = some ⟨g, off, none⟩) : ∃ o : Obj, w.heap[g]? = some o ∧ o.isCells = true := by
  obtain ⟨b, off', e', hb, hc⟩ := h.2.2 hn
  rw [e] at e'
  cases e'
  exact cells_of_cell (hc 0 hn)
structure Sch (n0 : Nat) (K : Nat → Tag) (w : World) (sb hb tb rb : Nat) (hd td : List Bool) (lk : Nat → Nat) (RJ : Nat → List Nat) (PS : List Plc) : Prop where
  head : w.heap[sb]? = some (.cells #[.slice (some ⟨hb, 0, none⟩) hd.length hd.length, .slice (some ⟨tb, 0, none⟩) hd.length hd.length, .slice (some ⟨rb, 0, none⟩) hd.length hd.length] 72)
  kh : K sb = .srch
  had : Tru w hb 4 hd
  khad : K hb = .had
  told : Tru w tb 4 td
  ktold : K tb = .told
  len : td.length = hd.length
  small : hd.length ≤ 4096
  tab : ∃ rv : Nat → Value, w.rowIs rb 98 hd.length rv ∧ ∀ i, i < hd.length → w.ownsRow 0 99 1 (rv i) (RJ i).length (ptrs PS (RJ i)) ∧ ∀ g, (rv i).ownBlock = some g → K g = .row i
  ktab : K rb = .tab
  steps : ∀ (j : Nat) (p : Plc), PS[j]? = some p → K p.blk = .stp j ∧ w.heap[p.blk]? = some (.cells #[.int .i64 (lk j : Nat), .slice p.gA p.way.gives.length p.gc] 101) ∧ Ins w p.gA p.way.gives.length p.way.gives ∧ p.way.gives.length ≤ p.gc ∧ p.gc ≤ maxLen ∧ (0 < p.way.gives.length → ∀ g off, p.gA = some ⟨g, off, none⟩ → K g = .other) ∧ lk j ≤ 100000
  rj : ∀ i, (∀ j ∈ RJ i, j < PS.length) ∧ (RJ i).length ≤ 10000 * PS.length
  far : ∀ g, w.heap.size ≤ g → K g = .other
  cell : ∀ g o, K g ≠ .other → w.heap[g]? = some o → o.isCells = true
  near : ∀ g, K g ≠ .other → n0 ≤ g
section
variable {n0 : Nat} {K : Nat → Tag} {w w' : World} {sb hb tb rb : Nat} {hd td : List Bool} {lk : Nat → Nat} {RJ : Nat → List Nat} {PS : List Plc}
theorem Sch.lt (h : Sch n0 K w sb hb tb rb hd td lk RJ PS) {g : Nat} (hg : K g ≠ .other) : g < w.heap.size := by
  rcases Nat.lt_or_ge g w.heap.size with h1 | h1
  · exact h1
  · exact absurd (h.far g h1) hg
/-- Other blocks are written, but for what is no cells'. -/
theorem Sch.keep (h : Sch n0 K w sb hb tb rb hd td lk RJ PS) (hs : w.heap.size ≤ w'.heap.size) (hk : ∀ g, g < w.heap.size → (K g ≠ .other ∨ ∃ o : Obj, w.heap[g]? = some o ∧ o.isCells = true) → w'.heap[g]? = w.heap[g]?) : Sch n0 K w' sb hb tb rb hd td lk RJ PS := by
  have keep : ∀ g, K g ≠ .other → w'.heap[g]? = w.heap[g]? := fun g hg => hk g (h.lt hg) (.inl hg)
  obtain ⟨rv, h1, h2⟩ := h.tab
  refine ⟨(keep sb (by rw [h.kh]; simp)).trans h.head, h.kh, h.had.block (keep hb (by rw [h.khad]; simp)), h.khad, h.told.block (keep tb (by rw [h.ktold]; simp)), h.ktold, h.len, h.small, ⟨rv, h1.of_block (keep rb (by rw [h.ktab]; simp)), fun i hi => ⟨own_same (h2 i hi).1 fun g hg => keep g (by rw [(h2 i hi).2 g hg]; simp), (h2 i hi).2⟩⟩, h.ktab, fun j p hp => ?_, h.rj, fun g hg => h.far g (by omega), fun g o hg ho => h.cell g o hg ((keep g hg).symm.trans ho), h.near⟩
  obtain ⟨k1, k2, k3, k4⟩ := h.steps j p hp
  refine ⟨k1, (keep p.blk (by rw [k1]; simp)).trans k2, ins_block k3 hs fun hn g off e => ?_, k4⟩
  obtain ⟨o, ho, hc⟩ := ins_cells k3 hn e
  exact hk g (Array.getElem?_eq_some_iff.1 ho).1 (.inr ⟨o, ho, hc⟩)
theorem Sch.below (h : Sch n0 K w sb hb tb rb hd td lk RJ PS) (k : Below w.heap.size w w') : Sch n0 K w' sb hb tb rb hd td lk RJ PS := h.keep k.size fun g hg _ => k.block g hg
theorem Sch.grown (h : Sch n0 K w sb hb tb rb hd td lk RJ PS) {row : Option Nat} (k : w.grownBy w' row) (hr : ∀ r, row = some r → K r = .other ∧ ∃ o : Obj, w.heap[r]? = some o ∧ o.isCells = false) : Sch n0 K w' sb hb tb rb hd td lk RJ PS := h.keep k.size fun g hg hc => by
  refine k.block g hg fun e => ?_
  obtain ⟨h1, o, ho, hoc⟩ := hr g e.symm
  rcases hc with hc | ⟨o', ho', hc'⟩
  · exact hc h1
  · rw [ho] at ho'; cases ho'; rw [hoc] at hc'; cases hc'
/-- Something is had. -/
theorem Sch.setHad (h : Sch n0 K w sb hb tb rb hd td lk RJ PS) {n : Nat} (hn : n < hd.length) : Sch n0 K (w.setCell ⟨hb, n, none⟩ (.bool true)) sb hb tb rb (hd.set n true) td lk RJ PS := by
  have hl : (hd.set n true).length = hd.length := List.length_set
  have keep : ∀ g, g ≠ hb → (w.setCell ⟨hb, n, none⟩ (.bool true)).heap[g]? = w.heap[g]? := fun g hg => set_heap_other _ _ _ _ _ hg
  have ne : ∀ g, K g ≠ .had → g ≠ hb := fun g hg e => hg (e ▸ h.khad)
  obtain ⟨rv, h1, h2⟩ := h.tab
  refine ⟨by rw [hl]; exact (keep sb (ne sb (by rw [h.kh]; simp))).trans h.head, h.kh, h.had.set hn, h.khad, h.told.block (keep tb (ne tb (by rw [h.ktold]; simp))), h.ktold, h.len.trans hl.symm, by rw [hl]; exact h.small, ⟨rv, by rw [hl]; exact h1.of_block (keep rb (ne rb (by rw [h.ktab]; simp))), fun i hi => ?_⟩, h.ktab, fun j p hp => ?_, h.rj, fun g hg => h.far g (by rw [set_size] at hg; exact hg), fun g o hg ho => ?_, h.near⟩
  · rw [hl] at hi
    exact ⟨own_same (h2 i hi).1 fun g hg => keep g (ne g (by rw [(h2 i hi).2 g hg]; simp)), (h2 i hi).2⟩
  · obtain ⟨k1, k2, k3, k4, k5, k6, k7⟩ := h.steps j p hp
    exact ⟨k1, (keep p.blk (ne _ (by rw [k1]; simp))).trans k2, ins_block k3 (by rw [set_size]; exact Nat.le_refl _) fun hn' g off e => keep g (ne g (by rw [k6 hn' g off e]; simp)), k4, k5, k6, k7⟩
  · by_cases e : g = hb
    · subst e
      obtain ⟨c, hc, _, _⟩ := h.had
      rw [set_heap w g n (.bool true) c _ _ hc] at ho
      cases ho
      rfl
    · exact h.cell g o hg ((keep g e).symm.trans ho)
/-- Something is told. -/
theorem Sch.setTold (h : Sch n0 K w sb hb tb rb hd td lk RJ PS) {n : Nat} (hn : n < hd.length) : Sch n0 K (w.setCell ⟨tb, n, none⟩ (.bool true)) sb hb tb rb hd (td.set n true) lk RJ PS := by
  have hl : (td.set n true).length = td.length := List.length_set
  have keep : ∀ g, g ≠ tb → (w.setCell ⟨tb, n, none⟩ (.bool true)).heap[g]? = w.heap[g]? := fun g hg => set_heap_other _ _ _ _ _ hg
  have ne : ∀ g, K g ≠ .told → g ≠ tb := fun g hg e => hg (e ▸ h.ktold)
  obtain ⟨rv, h1, h2⟩ := h.tab
  refine ⟨(keep sb (ne sb (by rw [h.kh]; simp))).trans h.head, h.kh, h.had.block (keep hb (ne hb (by rw [h.khad]; simp))), h.khad, h.told.set (by rw [h.len]; exact hn), h.ktold, hl.trans h.len, h.small, ⟨rv, h1.of_block (keep rb (ne rb (by rw [h.ktab]; simp))), fun i hi => ?_⟩, h.ktab, fun j p hp => ?_, h.rj, fun g hg => h.far g (by rw [set_size] at hg; exact hg), fun g o hg ho => ?_, h.near⟩
  · exact ⟨own_same (h2 i hi).1 fun g hg => keep g (ne g (by rw [(h2 i hi).2 g hg]; simp)), (h2 i hi).2⟩
  · obtain ⟨k1, k2, k3, k4, k5, k6, k7⟩ := h.steps j p hp
    exact ⟨k1, (keep p.blk (ne _ (by rw [k1]; simp))).trans k2, ins_block k3 (by rw [set_size]; exact Nat.le_refl _) fun hn' g off e => keep g (ne g (by rw [k6 hn' g off e]; simp)), k4, k5, k6, k7⟩
  · by_cases e : g = tb
    · subst e
      obtain ⟨c, hc, _, _⟩ := h.told
      rw [set_heap w g n (.bool true) c _ _ hc] at ho
      cases ho
      rfl
    · exact h.cell g o hg ((keep g e).symm.trans ho)
/-- A way lacks less. -/
theorem Sch.setLack (h : Sch n0 K w sb hb tb rb hd td lk RJ PS) {j : Nat} {p : Plc} (hp : PS[j]? = some p) {lk' : Nat → Nat} (h1 : ∀ i, i ≠ j → lk' i = lk i) (h2 : lk' j ≤ 100000) : Sch n0 K (w.setCell ⟨p.blk, 0, none⟩ (.int .i64 (lk' j : Nat))) sb hb tb rb hd td lk' RJ PS := by
  obtain ⟨p1, p2, p3, p4, p5, p6, p7⟩ := h.steps j p hp
  have keep : ∀ g, g ≠ p.blk → (w.setCell ⟨p.blk, 0, none⟩ (.int .i64 (lk' j : Nat))).heap[g]? = w.heap[g]? := fun g hg => set_heap_other _ _ _ _ _ hg
  have ne : ∀ g, K g ≠ .stp j → g ≠ p.blk := fun g hg e => hg (e ▸ p1)
  obtain ⟨rv, t1, t2⟩ := h.tab
  refine ⟨(keep sb (ne sb (by rw [h.kh]; simp))).trans h.head, h.kh, h.had.block (keep hb (ne hb (by rw [h.khad]; simp))), h.khad, h.told.block (keep tb (ne tb (by rw [h.ktold]; simp))), h.ktold, h.len, h.small, ⟨rv, t1.of_block (keep rb (ne rb (by rw [h.ktab]; simp))), fun i hi => ?_⟩, h.ktab, fun i q hq => ?_, h.rj, fun g hg => h.far g (by rw [set_size] at hg; exact hg), fun g o hg ho => ?_, h.near⟩
  · exact ⟨own_same (t2 i hi).1 fun g hg => keep g (ne g (by rw [(t2 i hi).2 g hg]; simp)), (t2 i hi).2⟩
  · obtain ⟨k1, k2, k3, k4, k5, k6, k7⟩ := h.steps i q hq
    have k3' : Ins (w.setCell ⟨p.blk, 0, none⟩ (.int .i64 (lk' j : Nat))) q.gA q.way.gives.length q.way.gives := ins_block k3 (by rw [set_size]; exact Nat.le_refl _) fun hn' g off e => keep g (ne g (by rw [k6 hn' g off e]; simp))
    by_cases e : i = j
    · subst e
      rw [hp] at hq
      cases hq
      exact ⟨k1, set_heap _ _ _ _ _ _ _ k2, k3', k4, k5, k6, h2⟩
    · exact ⟨k1, (by rw [h1 i e]; exact (keep q.blk (ne _ (by rw [k1]; intro e'; exact e (Tag.stp.inj e')))).trans k2), k3', k4, k5, k6, by rw [h1 i e]; exact k7⟩
  · by_cases e : g = p.blk
    · subst e
      rw [set_heap _ _ _ _ _ _ _ p2] at ho
      cases ho
      rfl
    · exact h.cell g o hg ((keep g e).symm.trans ho)
/-- A new way. -/
theorem Sch.newStep (h : Sch n0 K w sb hb tb rb hd td lk RJ PS) (hn0 : n0 ≤ w.heap.size) (way : Way) (gA : Option Addr) (gc n : Nat) (hi : Ins w gA way.gives.length way.gives) (hg1 : way.gives.length ≤ gc) (hg2 : gc ≤ maxLen) (hg : 0 < way.gives.length → ∀ g off, gA = some ⟨g, off, none⟩ → K g = .other) (hn : n ≤ 100000) :
    Sch n0 (fun g => if g = w.heap.size then .stp PS.length else K g) (w.alloc (.cells #[.int .i64 (n : Nat), .slice gA way.gives.length gc] 101)) sb hb tb rb hd td (fun j => if j = PS.length then n else lk j) RJ (PS ++ [⟨way, w.heap.size, gA, gc⟩]) := by
  have hb0 := below_new w (.cells #[.int .i64 (n : Nat), .slice gA way.gives.length gc] 101)
  have hnew := heap_new_ w (.cells #[.int .i64 (n : Nat), .slice gA way.gives.length gc] 101)
  obtain ⟨w1, hw1⟩ : ∃ x, w.alloc (.cells #[.int .i64 (n : Nat), .slice gA way.gives.length gc] 101) = x := ⟨_, rfl⟩
  have hsz : w1.heap.size = w.heap.size + 1 := by rw [← hw1]; exact World.size_alloc _ _
  rw [hw1] at hb0 hnew ⊢
  have hk : ∀ g t, K g = t → t ≠ .other → (if g = w.heap.size then Tag.stp PS.length else K g) = t := fun g t e ht => by
    rw [if_neg (fun e' => ht (by rw [← e, e']; exact h.far _ (Nat.le_refl _)))]
    exact e
  have h' := h.below hb0
  obtain ⟨rv, t1, t2⟩ := h'.tab
  refine ⟨h'.head, hk _ _ h.kh (by simp), h'.had, hk _ _ h.khad (by simp), h'.told, hk _ _ h.ktold (by simp), h.len, h.small, ⟨rv, t1, fun i hi' => ?_⟩, hk _ _ h.ktab (by simp), fun j p hp => ?_, fun i => ?_, fun g hg' => ?_, fun g o hg' ho => ?_, fun g hg' => ?_⟩
  · rw [ptrs_more (h.rj i).1]
    exact ⟨(t2 i hi').1, fun g hg' => hk _ _ ((t2 i hi').2 g hg') (by simp)⟩
  · by_cases e : j < PS.length
    · rw [List.getElem?_append_left e] at hp
      obtain ⟨k1, k2, k3, k4, k5, k6, k7⟩ := h'.steps j p hp
      have hj : j ≠ PS.length := by omega
      refine ⟨hk _ _ k1 (by simp), by rw [if_neg hj]; exact k2, k3, k4, k5, fun hn' g off e' => ?_, by rw [if_neg hj]; exact k7⟩
      obtain ⟨o, ho, _⟩ := ins_cells (h.steps j p hp).2.2.1 hn' e'
      have hgl := (Array.getElem?_eq_some_iff.1 ho).1
      show (if g = w.heap.size then Tag.stp PS.length else K g) = .other
      rw [if_neg (by omega)]
      exact k6 hn' g off e'
    · have hj : j = PS.length := by
        have := (List.getElem?_eq_some_iff.1 hp).1
        rw [List.length_append, List.length_singleton] at this
        omega
      subst hj
      rw [List.getElem?_append_right (Nat.le_refl _), Nat.sub_self] at hp
      cases hp
      refine ⟨if_pos rfl, by rw [if_pos rfl]; exact hnew, hi.below hb0, hg1, hg2, fun hn' g off e' => ?_, by rw [if_pos rfl]; exact hn⟩
      obtain ⟨o, ho, _⟩ := ins_cells hi hn' e'
      have hgl := (Array.getElem?_eq_some_iff.1 ho).1
      show (if g = w.heap.size then Tag.stp PS.length else K g) = .other
      rw [if_neg (by omega)]
      exact hg hn' g off e'
  · rw [List.length_append, List.length_singleton]
    exact ⟨fun j hj => by have := (h.rj i).1 j hj; omega, Nat.le_trans (h.rj i).2 (by omega)⟩
  · show (if g = w.heap.size then Tag.stp PS.length else K g) = .other
    rw [if_neg (by omega)]
    exact h.far g (by omega)
  · by_cases e : g = w.heap.size
    · subst e
      rw [hnew] at ho
      cases ho
      rfl
    · rw [if_neg e] at hg'
      exact h'.cell g o hg' ho
  · by_cases e : g = w.heap.size
    · omega
    · rw [if_neg e] at hg'
      exact h.near g hg'
/-- The element type's row of the table. -/
theorem Tryz.infoStep : (Tryz.prog.info? 99).map (fun i => (i.zero, i.size, i.bytes)) = some (some (.pointer none), 1, 8) := by kernel_rfl
/-- A list of ways by one more. -/
theorem app_ptr (w : World) (v : Value) (n : Nat) (cs : List Value) (hown : w.ownsRow 0 99 1 v n cs) (a : Option Addr) (hn : n + 1 ≤ 10000000000) :
    ∃ v' w', (Builtin.append_ #[98, 98] 98 #[v, .slice (some ⟨w.heap.size, 0, none⟩) 1 1]).run Tryz.prog (w.alloc (.cells #[.pointer a] 99)) = .ok v' w' ∧ w'.ownsRow 0 99 1 v' (n + 1) (cs ++ [.pointer a]) ∧ (w.alloc (.cells #[.pointer a] 99)).grownBy w' v.ownBlock ∧ (v'.ownBlock = v.ownBlock ∨ ∃ g', v'.ownBlock = some g' ∧ w.heap.size < g') := by
  obtain ⟨i0, hi, hz0, hz1, hz2⟩ := info_parts Tryz.infoStep
  have hnew := heap_new_ w (.cells #[.pointer a] 99)
  obtain ⟨v', w', h1, h2, h3, _, h5⟩ := app_gen (P := Tryz.prog) (w.alloc (.cells #[.pointer a] 99)) 0 98 98 99 i0 (.pointer none) 1 8 Tryz.underlying98 hi hz0 hz1 hz2 rfl (by decide) v n cs (own_below hown (below_new _ _)) ⟨w.heap.size, 0, none⟩ 1 1 [.pointer a] rfl
    (fun j u hu => by
      have hj := (List.getElem?_eq_some_iff.1 hu).1
      obtain rfl : j = 0 := by simpa using hj
      rw [Addr.add_lit, Nat.zero_add, Lib.cell_of_heap hnew, ← hu]
      rfl) (fun u hu => by rw [List.mem_singleton.1 hu]; rfl) (by unfold maxLen; omega) (by omega) (Nat.zero_le _)
  refine ⟨v', w', h1, h2, h3, ?_⟩
  rcases h5 with h | ⟨g', h, hg⟩
  · exact .inl h
  · exact .inr ⟨g', h, by simp at hg; omega⟩
/-- A way into a list of ways. -/
theorem Sch.addRow (h : Sch n0 K w sb hb tb rb hd td lk RJ PS) (hn0 : n0 ≤ w.heap.size) {i j : Nat} {p : Plc} (hi : i < hd.length) (hj : PS[j]? = some p) (hl : (RJ i).length + 1 ≤ 10000 * PS.length) {rv : Nat → Value} (hrow : w.rowIs rb 98 hd.length rv) (hrv : ∀ i, i < hd.length → w.ownsRow 0 99 1 (rv i) (RJ i).length (ptrs PS (RJ i)) ∧ ∀ g, (rv i).ownBlock = some g → K g = .row i)
    {v' : Value} {w2 : World} (hown : w2.ownsRow 0 99 1 v' ((RJ i).length + 1) (ptrs PS (RJ i) ++ [.pointer (some ⟨p.blk, 0, none⟩)])) (hg : (w.alloc (.cells #[.pointer (some ⟨p.blk, 0, none⟩)] 99)).grownBy w2 (rv i).ownBlock) (hb2 : v'.ownBlock = (rv i).ownBlock ∨ ∃ g', v'.ownBlock = some g' ∧ w.heap.size < g') :
    ∃ K', (∀ g, g < w.heap.size → K g = .other → K' g = .other) ∧ Sch n0 K' (w2.setCell ⟨rb, i, none⟩ v') sb hb tb rb hd td lk (fun k => if k = i then RJ i ++ [j] else RJ k) PS ∧ Off (fun g => K g ≠ .other) w (w2.setCell ⟨rb, i, none⟩ v') := by
  have hsz := hg.size
  rw [World.size_alloc] at hsz
  have hal : ∀ g, g < w.heap.size → (w.alloc (.cells #[.pointer (some ⟨p.blk, 0, none⟩)] 99)).heap[g]? = w.heap[g]? := fun g hg' => (below_new w _).block g hg'
  have keep2 : ∀ g, g < w.heap.size → K g ≠ .row i → w2.heap[g]? = w.heap[g]? := fun g hg' hne => (hg.block g (by rw [World.size_alloc]; omega) (fun e => hne ((hrv i hi).2 g e.symm))).trans (hal g hg')
  have hkrb : K rb ≠ .row i := by rw [h.ktab]; simp
  have hrb2 : w2.heap[rb]? = w.heap[rb]? := keep2 rb hrow.lt hkrb
  have keep : ∀ g, g < w.heap.size → K g ≠ .row i → g ≠ rb → (w2.setCell ⟨rb, i, none⟩ v').heap[g]? = w.heap[g]? := fun g hg' hne hr => (set_heap_other _ _ _ _ _ hr).trans (keep2 g hg' hne)
  have ne : ∀ g, K g ≠ .tab → g ≠ rb := fun g hg' e => hg' (e ▸ h.ktab)
  have hvl : ∀ g, v'.ownBlock = some g → g < w2.heap.size := fun g e => (hown.lt g e).2
  have hko : ∀ g, g < w.heap.size → K g = .other → (if v'.ownBlock = some g then Tag.row i else if (rv i).ownBlock = some g then .other else K g) = .other := fun g hg' e => by
    split
    · rename_i e'
      rcases hb2 with h1 | ⟨g', h1, h2⟩
      · rw [(hrv i hi).2 g (h1.symm.trans e')] at e; cases e
      · rw [h1] at e'; cases e'; omega
    · split
      · rfl
      · exact e
  refine ⟨fun g => if v'.ownBlock = some g then .row i else if (rv i).ownBlock = some g then .other else K g, hko, ?_, ?_⟩
  · have hk : ∀ g t, K g = t → t ≠ .other → t ≠ .row i → (if v'.ownBlock = some g then Tag.row i else if (rv i).ownBlock = some g then .other else K g) = t := fun g t e ht ht2 => by
      split
      · rename_i e'
        rcases hb2 with h1 | ⟨g', h1, h2⟩
        · exact absurd (e.symm.trans ((hrv i hi).2 g (h1.symm.trans e'))) ht2
        · rw [h1] at e'; cases e'
          exact absurd (e.symm.trans (h.far g (by omega))) ht
      · split
        · rename_i e'
          exact absurd (e.symm.trans ((hrv i hi).2 g e')) ht2
        · exact e
    have hsb : sb < w.heap.size := h.lt (by rw [h.kh]; simp)
    refine ⟨(keep sb hsb (by rw [h.kh]; simp) (ne sb (by rw [h.kh]; simp))).trans h.head, hk _ _ h.kh (by simp) (by simp), h.had.block (keep hb h.had.lt (by rw [h.khad]; simp) (ne hb (by rw [h.khad]; simp))), hk _ _ h.khad (by simp) (by simp), h.told.block (keep tb h.told.lt (by rw [h.ktold]; simp) (ne tb (by rw [h.ktold]; simp))), hk _ _ h.ktold (by simp) (by simp), h.len, h.small, ⟨fun k => if k = i then v' else rv k, (hrow.of_block hrb2).set i v', fun k hk' => ?_⟩, hk _ _ h.ktab (by simp) (by simp), fun k q hq => ?_, fun k => ?_, fun g hg' => ?_, fun g o hg' ho => ?_, fun g hg' => ?_⟩
    · by_cases e : k = i
      · subst e
        show (w2.setCell ⟨rb, k, none⟩ v').ownsRow 0 99 1 (if k = k then v' else rv k) (if k = k then RJ k ++ [j] else RJ k).length (ptrs PS (if k = k then RJ k ++ [j] else RJ k)) ∧ ∀ g, (if k = k then v' else rv k).ownBlock = some g → (if v'.ownBlock = some g then Tag.row k else if (rv k).ownBlock = some g then .other else K g) = .row k
        rw [if_pos rfl, if_pos rfl]
        refine ⟨?_, fun g hg' => if_pos hg'⟩
        have e2 : ptrs PS (RJ k ++ [j]) = ptrs PS (RJ k) ++ [.pointer (some ⟨p.blk, 0, none⟩)] := by
          have := ptrs_at (PS := PS) (l := [j]) (k := 0) rfl hj
          unfold ptrs at this ⊢
          rw [List.map_append]
          congr 1
          exact congrArg (fun x => [x]) (Option.some.inj this)
        rw [e2, List.length_append]
        refine own_same hown fun g hg' => set_heap_other _ _ _ _ _ fun e3 => ?_
        subst e3
        rcases hb2 with h1 | ⟨g', h1, h2⟩
        · have := (hrv k hk').2 g (h1.symm.trans hg')
          rw [h.ktab] at this
          cases this
        · rw [h1] at hg'; cases hg'
          have := hrow.lt
          omega
      · show (w2.setCell ⟨rb, i, none⟩ v').ownsRow 0 99 1 (if k = i then v' else rv k) (if k = i then RJ i ++ [j] else RJ k).length (ptrs PS (if k = i then RJ i ++ [j] else RJ k)) ∧ ∀ g, (if k = i then v' else rv k).ownBlock = some g → (if v'.ownBlock = some g then Tag.row i else if (rv i).ownBlock = some g then .other else K g) = .row k
        rw [if_neg e, if_neg e]
        refine ⟨own_same (hrv k hk').1 fun g hg' => ?_, fun g hg' => hk _ _ ((hrv k hk').2 g hg') (by simp) (fun e' => e (Tag.row.inj e'))⟩
        have hkg := (hrv k hk').2 g hg'
        exact keep g (h.lt (by rw [hkg]; simp)) (by rw [hkg]; intro e'; exact e (Tag.row.inj e')) (ne g (by rw [hkg]; simp))
    · obtain ⟨k1, k2, k3, k4, k5, k6, k7⟩ := h.steps k q hq
      refine ⟨hk _ _ k1 (by simp) (by simp), (keep q.blk (h.lt (by rw [k1]; simp)) (by rw [k1]; simp) (ne _ (by rw [k1]; simp))).trans k2, ins_block k3 (by rw [set_size]; omega) fun hn' g off e => ?_, k4, k5, fun hn' g off e => ?_, k7⟩
      · have hkg := k6 hn' g off e
        obtain ⟨o, ho, _⟩ := ins_cells k3 hn' e
        exact keep g (Array.getElem?_eq_some_iff.1 ho).1 (by rw [hkg]; simp) (ne g (by rw [hkg]; simp))
      · obtain ⟨o, ho, _⟩ := ins_cells k3 hn' e
        exact hko g (Array.getElem?_eq_some_iff.1 ho).1 (k6 hn' g off e)
    · by_cases e : k = i
      · subst e
        show (∀ x ∈ (if k = k then RJ k ++ [j] else RJ k), x < PS.length) ∧ (if k = k then RJ k ++ [j] else RJ k).length ≤ _
        rw [if_pos rfl]
        refine ⟨fun x hx => ?_, by rw [List.length_append]; exact hl⟩
        rcases List.mem_append.1 hx with hx | hx
        · exact (h.rj k).1 x hx
        · rw [List.mem_singleton.1 hx]
          exact (List.getElem?_eq_some_iff.1 hj).1
      · show (∀ x ∈ (if k = i then RJ i ++ [j] else RJ k), x < PS.length) ∧ (if k = i then RJ i ++ [j] else RJ k).length ≤ _
        rw [if_neg e]
        exact h.rj k
    · rw [set_size] at hg'
      show (if v'.ownBlock = some g then Tag.row i else if (rv i).ownBlock = some g then .other else K g) = .other
      rw [if_neg (fun e => by have := hvl g e; omega)]
      split
      · rfl
      · exact h.far g (by omega)
    · by_cases e1 : g = rb
      · subst e1
        obtain ⟨c, hc, _, _⟩ := hrow
        rw [set_heap w2 g i v' c _ _ (hrb2.trans hc)] at ho
        cases ho
        rfl
      · rw [set_heap_other _ _ _ _ _ e1] at ho
        by_cases e2 : v'.ownBlock = some g
        · rcases hown.2 with ⟨rfl, _⟩ | ⟨g1, cap, cur, rfl, _, hg1, _⟩
          · cases e2
          · cases e2
            rw [hg1] at ho
            cases ho
            rfl
        · rw [if_neg e2] at hg'
          by_cases e4 : (rv i).ownBlock = some g
          · rw [if_pos e4] at hg'
            exact absurd rfl hg'
          · rw [if_neg e4] at hg'
            have hgl := h.lt hg'
            exact h.cell g o hg' (((hg.block g (by rw [World.size_alloc]; omega) (fun e => e4 e.symm)).trans (hal g hgl)).symm.trans ho)
    · by_cases e2 : v'.ownBlock = some g
      · rcases hb2 with h1 | ⟨g', h1, h2⟩
        · exact h.near g (by rw [(hrv i hi).2 g (h1.symm.trans e2)]; simp)
        · rw [h1] at e2; cases e2; omega
      · rw [if_neg e2] at hg'
        split at hg'
        · exact absurd rfl hg'
        · exact h.near g hg'
  · refine ⟨hg.os, hg.tape, hg.output, by rw [set_size]; omega, fun g hg' hne => ?_⟩
    have hne' : K g = .other := Classical.byContradiction hne
    exact keep g hg' (by rw [hne']; simp) (ne g (by rw [hne']; simp))
end
end Go.Proofs.YtlhogjigdmpokaaGreatDoor.vtc
namespace Go.Proofs.YtlhogjigdmpokaaGreatDoor.vtc
open Go.RowKit Go.Proofs.YtlhogjigdmpokaaGreatDoor.tlvc Go.Proofs.YtlhogjigdmpokaaGreatDoor.tmc
set_option linter.unusedVariables false
/-- Has something been found? -/
def foundB (a b : List Bool) : Bool := decide (b ≠ a)
theorem found_yes {a b : List Bool} (h : b ≠ a) : foundB a b = true := decide_eq_true h
theorem found_no (a : List Bool) : foundB a a = false := by unfold foundB; simp
theorem found_iff {a b : List Bool} : foundB a b = true ↔ b ≠ a := decide_eq_true_iff
theorem Sch.cells3 {n0 : Nat} {K : Nat → Tag} {w : World} {sb hb tb rb : Nat} {hd td : List Bool} {lk : Nat → Nat} {RJ : Nat → List Nat} {PS : List Plc} (h : Sch n0 K w sb hb tb rb hd td lk RJ PS) :
    w.cell? ⟨sb, 0, none⟩ = some (.slice (some ⟨hb, 0, none⟩) hd.length hd.length) ∧ w.cell? ⟨sb, 1, none⟩ = some (.slice (some ⟨tb, 0, none⟩) hd.length hd.length) ∧ w.cell? ⟨sb, 2, none⟩ = some (.slice (some ⟨rb, 0, none⟩) hd.length hd.length) :=
  ⟨(Lib.cell_of_heap h.head _).trans rfl, (Lib.cell_of_heap h.head _).trans rfl, (Lib.cell_of_heap h.head _).trans rfl⟩
set_option maxRecDepth 100000 in
set_option maxHeartbeats 4000000 in
theorem have_any {n0 : Nat} {K : Nat → Tag} {w : World} {sb hb tb rb : Nat} {hd td : List Bool} {lk : Nat → Nat} {RJ : Nat → List Nat} {PS : List Plc} (h : Sch n0 K w sb hb tb rb hd td lk RJ PS) (A : Option Addr) (n c : Nat) (xs : List Int) (hx : Ins w A n xs) (hnc : n ≤ c) (hcm : c ≤ maxLen) (hA : 0 < n → ∀ g off, A = some ⟨g, off, none⟩ → K g = .other) :
    Calls Tryz.prog 30 #[.pointer (some ⟨sb, 0, none⟩), .slice A n c] w fun e w' => e = .returned (.bool (foundB hd (haveF hd xs))) ∧ Sch n0 K w' sb hb tb rb (haveF hd xs) td lk RJ PS ∧ Off (fun g => K g = .had) w w' := by
  have h9 : c ≤ 9223372036854775807 := by unfold maxLen at hcm; omega
  have hlen := hx.1
  have hsm := h.small
  have HS := Lib.hid h
  have HX := Lib.hid (And.intro hx hA)
  have HL := Lib.hid hlen
  clear h hx hlen hcm hA
  go_enter Tryz.func30, Tryz.ntmps30
  go_wp2_with fail
  go_loopg [5, 10] (n + 1) (fun gk s5 s10 wx => ∃ (i : Nat) (f : Bool), s5 = .bool f ∧ s10 = .int .i64 i ∧ i ≤ n ∧ n - i < gk ∧ Hid (f = foundB hd (haveF hd (xs.take i)) ∧ Sch n0 K wx sb hb tb rb (haveF hd (xs.take i)) td lk RJ PS ∧ Off (fun g => K g = .had) w wx))
  case atStart => exact ⟨0, false, rfl, rfl, by omega, by omega, Lib.hid ⟨by rw [List.take_zero, have_nil, found_no], by rw [List.take_zero, have_nil]; exact HS.out, Off.refl _ _⟩⟩
  case round =>
    obtain ⟨i, f, rfl, rfl, hi, hgk, HR⟩ := hrel
    by_cases hlt : i < n
    · have hltz : (i : Int) < (n : Int) := by omega
      obtain ⟨gk', rfl⟩ : ∃ g', gk = g' + 1 := ⟨gk - 1, by omega⟩
      have HN := Lib.hid (And.intro (show i + 1 ≤ n from hlt) (show n - (i + 1) < gk' by omega))
      have hIns : Ins wr A n xs := ins_block HX.out.1 HR.out.2.2.size fun hn g off e => by
        obtain ⟨o, ho, _⟩ := ins_cells HX.out.1 hn e
        exact HR.out.2.2.block g (Array.getElem?_eq_some_iff.1 ho).1 (fun e2 => by rw [HX.out.2 hn g off e] at e2; cases e2)
      obtain ⟨b, off, rfl, hb1, hc⟩ := hIns.2.2 (by omega)
      have x0 := hc i hlt
      have hxf := hIns.2.1.getD i
      obtain ⟨x, hxx⟩ : ∃ x, xs.getD i 0 = x := ⟨_, rfl⟩
      rw [hxx] at x0 hxf
      have htk : xs.take (i + 1) = xs.take i ++ [x] := by
        have hil : i < xs.length := by rw [HL.out]; exact hlt
        rw [List.take_succ_eq_append_getElem hil, ← hxx, List.getD_eq_getElem?_getD, List.getElem?_eq_getElem hil]
        rfl
      have hhl := have_len hd (xs.take i)
      obtain ⟨c0, _, _⟩ := HR.out.2.1.cells3
      rw [hhl] at c0
      have HT := Lib.hid htk
      obtain ⟨N, hN⟩ : ∃ N, hd.length = N := ⟨_, rfl⟩
      rw [hN] at c0 hsm hhl
      have HNN := Lib.hid (And.intro hN hhl)
      clear hc hxx hgk htk hIns hN hhl
      by_cases hneg : x < 0
      · have hge : ¬ (0 : Int) ≤ x := by omega
        go_wp2
        go_roundg gk'
        case measure => omega
        case rel =>
          refine ⟨i + 1, f, rfl, by go_num, HN.out.1, HN.out.2, Lib.hid ?_⟩
          rw [HT.out, have_miss (.inl fun hh => absurd hh.1 (by omega))]
          exact HR.out
      · by_cases hge : x < (N : Int)
        · obtain ⟨m, rfl⟩ : ∃ m : Nat, x = (m : Int) := ⟨x.toNat, by omega⟩
          have hmN : m < N := by omega
          have hml : m < (haveF hd (xs.take i)).length := by rw [HNN.out.2]; exact hmN
          have b0 := HR.out.2.1.had.at hml
          have fz := HR.out.2.1.had.warm m
          obtain ⟨v, hv⟩ : ∃ v, (haveF hd (xs.take i)).getD m false = v := ⟨_, rfl⟩
          rw [hv] at b0
          have HV := Lib.hid (And.intro hv hml)
          clear hml hv
          have hpos : (0 : Int) ≤ (m : Int) := by omega
          cases v with
          | true =>
            go_wp2
            go_roundg gk'
            case measure => omega
            case rel =>
              refine ⟨i + 1, f, rfl, by go_num, HN.out.1, HN.out.2, Lib.hid ?_⟩
              rw [HT.out, have_miss (.inr HV.out.1)]
              exact HR.out
          | false =>
            have hhit : haveF hd (xs.take i ++ [(m : Int)]) = (haveF hd (xs.take i)).set m true ∧ haveF hd (xs.take i ++ [(m : Int)]) ≠ hd := have_hit (by omega) (by rw [HNN.out.1]; omega) HV.out.1
            have HH := Lib.hid (And.intro hhit (And.intro (HR.out.2.1.setHad HV.out.2) (Off.trans (S'' := fun g => K g = .had) HR.out.2.2 (Off.set (S := fun g => K g = .had) wr hb m (.bool true) HR.out.2.1.khad) (fun _ _ h => h) (fun _ _ h => h))))
            clear hhit
            go_wp2
            go_roundg gk'
            case measure => omega
            case rel =>
              refine ⟨i + 1, true, rfl, by go_num, HN.out.1, HN.out.2, Lib.hid ?_⟩
              rw [HT.out]
              refine ⟨(found_yes HH.out.1.2).symm, ?_, HH.out.2.2⟩
              rw [HH.out.1.1]
              exact HH.out.2.1
        · have hge2 : (N : Int) ≤ x := by omega
          go_wp2
          go_roundg gk'
          case measure => omega
          case rel =>
            refine ⟨i + 1, f, rfl, by go_num, HN.out.1, HN.out.2, Lib.hid ?_⟩
            rw [HT.out, have_miss (.inl fun hh => by have := hh.2; rw [HNN.out.1] at this; omega)]
            exact HR.out
    · obtain rfl : n = i := by omega
      have hltz : ¬ (n : Int) < (n : Int) := by omega
      have htk : xs.take n = xs := List.take_of_length_le (by rw [HL.out]; exact Nat.le_refl _)
      have HE : Hid (f = foundB hd (haveF hd xs) ∧ Sch n0 K wr sb hb tb rb (haveF hd xs) td lk RJ PS ∧ Off (fun g => K g = .had) w wr) := Lib.hid (by have := HR.out; rwa [htk] at this)
      clear hgk htk
      go_wp2
      go_ret
      exact ⟨by rw [← HE.out.1]; rfl, HE.out.2.1, HE.out.2.2⟩
end Go.Proofs.YtlhogjigdmpokaaGreatDoor.vtc
namespace Go.Proofs.YtlhogjigdmpokaaGreatDoor.vtc
open Go.RowKit Go.Proofs.YtlhogjigdmpokaaGreatDoor.tlvc Go.Proofs.YtlhogjigdmpokaaGreatDoor.tmc
set_option linter.unusedVariables false
/-- What each way lacks. -/
def lkT (td : List Bool) (WS : List Way) (j : Nat) : Nat := match WS[j]? with | some w => lackW td w | none => 0
theorem lkT_some {td : List Bool} {WS : List Way} {j : Nat} {w : Way} (h : WS[j]? = some w) : lkT td WS j = lackW td w := by unfold lkT; rw [h]
theorem lkF_eq (td : List Bool) (WS : List Way) (row : List Nat) (k j : Nat) : lkF td WS row k j = lkT td WS j + (row.drop k).count j := rfl
theorem lack_le_len (td : List Bool) (w : Way) : lackW td w ≤ w.needs.length := List.countP_le_length
section
variable {n0 : Nat} {K : Nat → Tag} {w w' : World} {sb hb tb rb : Nat} {hd td : List Bool} {lk lk' : Nat → Nat} {RJ : Nat → List Nat} {PS : List Plc}
theorem Sch.lks (h : Sch n0 K w sb hb tb rb hd td lk RJ PS) (e : ∀ j, j < PS.length → lk' j = lk j) : Sch n0 K w sb hb tb rb hd td lk' RJ PS :=
  ⟨h.head, h.kh, h.had, h.khad, h.told, h.ktold, h.len, h.small, h.tab, h.ktab, fun j p hp => by rw [e j (List.getElem?_eq_some_iff.1 hp).1]; exact h.steps j p hp, h.rj, h.far, h.cell, h.near⟩
theorem frozen_of_heap {w : World} {b : Nat} {cs : Array Value} {T : TypeId} (h : w.heap[b]? = some (.cells cs T)) (i : Nat) : w.frozen? ⟨b, i, none⟩ = false := by simp [World.frozen?, h]
theorem sub_ne {a b c : List Bool} (h : Sub a b) (k : Sub b c) (hne : c ≠ b) : c ≠ a := fun e => by
  subst e
  exact hne (sub_eq h fun n hn => k.2 n hn)
/-- What is asked of the ways beside. -/
structure WOk (N : Nat) (RJ : Nat → List Nat) (PS : List Plc) : Prop where
  rows : RowsOk (PS.map Plc.way) RJ
  pos : ∀ w ∈ PS.map Plc.way, ∀ m ∈ w.needs, 0 ≤ m ∧ m < (N : Int)
  few : ∀ w ∈ PS.map Plc.way, w.needs.length ≤ 10000
  full : ∀ w ∈ PS.map Plc.way, w.needs ≠ []
end
set_option maxRecDepth 100000 in
set_option maxHeartbeats 8000000 in
theorem tell_any {n0 : Nat} {K : Nat → Tag} {w : World} {sb hb tb rb : Nat} {hd td : List Bool} {RJ : Nat → List Nat} {PS : List Plc} {h0 : List Bool} (h : Sch n0 K w sb hb tb rb hd td (lkT td (PS.map Plc.way)) RJ PS) (hW : WOk hd.length RJ PS) (hPS : PS.length ≤ 100000) (hSI : SI hd.length (PS.map Plc.way) h0 hd td) (n : Nat) (hn : SB hd n) (ht : td.getD n false = false) :
    Calls Tryz.prog 32 #[.pointer (some ⟨sb, 0, none⟩), .int .i64 n] w fun e w' => ∃ hd', e = .returned (.bool (foundB hd hd')) ∧ Sch n0 K w' sb hb tb rb hd' (td.set n true) (lkT (td.set n true) (PS.map Plc.way)) RJ PS ∧ SI hd.length (PS.map Plc.way) h0 hd' (td.set n true) ∧ Off (fun g => K g ≠ .other) w w' := by
  have hnl := hn.lt
  obtain ⟨rv, hrow, hrv⟩ := h.tab
  obtain ⟨hown, hrk⟩ := hrv n hnl
  obtain ⟨A, cA, hAe, hlc, hcm, hA0⟩ := own_shape hown
  have hsm := h.small
  have r0 := hrow.cell hnl
  rw [hAe] at r0 hown hrk
  obtain ⟨c0, c1, c2⟩ := h.cells3
  have t0 := h.told.warm n
  have htl : n < td.length := by rw [h.len]; exact hnl
  have b0 := h.told.at htl
  rw [ht] at b0
  have hrb : rb ≠ tb := fun e => by have := h.ktab; rw [e, h.ktold] at this; cases this
  have hsb : sb ≠ tb := fun e => by have := h.kh; rw [e, h.ktold] at this; cases this
  have hlen : (RJ n).length ≤ 1000000000 := Nat.le_trans (h.rj n).2 (by omega)
  have hS1 := h.setTold hnl
  have hO1 : Off (fun g => K g = .told) w (w.setCell ⟨tb, n, none⟩ (.bool true)) := Off.set w tb n _ h.ktold
  have hSW : Sch n0 K (w.setCell ⟨tb, n, none⟩ (.bool true)) sb hb tb rb hd (td.set n true) (lkF (td.set n true) (PS.map Plc.way) (RJ n) 0) RJ PS := hS1.lks fun j hj => by
    have hj' : (PS.map Plc.way)[j]? = some (PS[j]'hj).way := by rw [List.getElem?_map, List.getElem?_eq_getElem hj]; rfl
    rw [lkT_some hj']
    exact lk_start hW.rows (by rw [h.len]; exact hnl) ht hj' fun m hm => (hW.pos _ (List.mem_of_getElem? hj') m hm).1
  have hT0 := hSI.start hW.rows (fun w hw m hm => (hW.pos w hw m hm).1) hn ht
  have hownW : (w.setCell ⟨tb, n, none⟩ (.bool true)).ownsRow 0 99 1 (.slice A (RJ n).length cA) (RJ n).length (ptrs PS (RJ n)) := own_same hown fun g hg => set_heap_other _ _ _ _ _ fun e => by
    have := hrk g hg
    rw [e, h.ktold] at this
    cases this
  have d2 : (w.setCell ⟨tb, n, none⟩ (.bool true)).cell? ⟨sb, 2, none⟩ = some (.slice (some ⟨rb, 0, none⟩) hd.length hd.length) := (cell_same (p := ⟨sb, 2, none⟩) (set_heap_other _ _ _ _ _ hsb)).trans c2
  have d0 : (w.setCell ⟨tb, n, none⟩ (.bool true)).cell? ⟨rb, n, none⟩ = some (.slice A (RJ n).length cA) := (cell_same (p := ⟨rb, n, none⟩) (set_heap_other _ _ _ _ _ hrb)).trans r0
  obtain ⟨row, hrowe⟩ : ∃ row, RJ n = row := ⟨_, rfl⟩
  rw [hrowe] at hlc hown hrk hlen hSW hT0 hownW d0 r0 hA0
  obtain ⟨N, hN⟩ : ∃ N, hd.length = N := ⟨_, rfl⟩
  rw [hN] at hnl c0 c1 c2 d2 hsm hSI hT0
  have HF := Lib.hid (And.intro hN (And.intro hrowe (And.intro hW (And.intro hSI (And.intro hn hPS)))))
  have HW := Lib.hid (And.intro hSW (And.intro hT0 (And.intro hownW (And.intro hO1 hrk))))
  obtain ⟨lr, hlr⟩ : ∃ lr, row.length = lr := ⟨_, rfl⟩
  rw [hlr] at d0 hlc hlen hA0 r0
  have h9 : cA ≤ 9223372036854775807 := by unfold maxLen at hcm; omega
  have hnN : (n : Int) < (N : Int) := by omega
  have HLR := Lib.hid hlr
  have HT : Hid (∀ j, j < PS.length → ∃ p, PS[j]? = some p) := Lib.hid fun j hj => ⟨_, List.getElem?_eq_getElem hj⟩
  have HRJ : Hid (∀ j ∈ row, j < PS.length) := Lib.hid fun j hj => (h.rj n).1 j (by rw [hrowe]; exact hj)
  clear h hn ht hN hrowe hW hPS hSW hT0 hownW hO1 hrk hrow hrv hown hAe hcm htl hS1 hlr hSI
  have hrb' := hrb.symm
  have hsb' := hsb.symm
  clear d0 d2
  go_enter Tryz.func32, Tryz.ntmps32
  go_wp2_with fail
  go_loopg [5, 22] (lr + 1) (fun gk s5 s22 wx => ∃ (k : Nat) (f : Bool) (hx : List Bool), s5 = .bool f ∧ s22 = .int .i64 k ∧ k ≤ lr ∧ lr - k < gk ∧ Hid (f = foundB hd hx ∧ Sch n0 K wx sb hb tb rb hx (td.set n true) (lkF (td.set n true) (PS.map Plc.way) row k) RJ PS ∧ TI N (PS.map Plc.way) hd (td.set n true) row k hx ∧ wx.ownsRow 0 99 1 (.slice A row.length cA) row.length (ptrs PS row) ∧ Off (fun g => K g ≠ .other) w wx))
  case atStart => exact ⟨0, false, hd, rfl, rfl, by omega, by omega, Lib.hid ⟨(found_no _).symm, HW.out.1, HW.out.2.1, HW.out.2.2.1, HW.out.2.2.2.1.mono fun g _ e => by rw [e]; simp⟩⟩
  case round =>
    obtain ⟨k, f, hx, rfl, rfl, hk, hgk, HR⟩ := hrel
    by_cases hlt : k < lr
    · have hltz : (k : Int) < (lr : Int) := by omega
      obtain ⟨gk', rfl⟩ : ∃ g', gk = g' + 1 := ⟨gk - 1, by omega⟩
      have HN := Lib.hid (And.intro (show k + 1 ≤ lr from hlt) (show lr - (k + 1) < gk' by omega))
      obtain ⟨g, rfl, _, _⟩ := hA0 k hlt
      obtain ⟨j, hj⟩ : ∃ j, row[k]? = some j := ⟨_, List.getElem?_eq_getElem (by rw [HLR.out]; exact hlt)⟩
      obtain ⟨p, hp⟩ := HT.out j (HRJ.out j (List.mem_of_getElem? hj))
      have x0 : wr.cell? ⟨g, k, none⟩ = some (.pointer (some ⟨p.blk, 0, none⟩)) := (HR.out.2.2.2.1.cellAt k (by rw [HLR.out]; omega)).trans (ptrs_at hj hp)
      obtain ⟨k1, k2, k3, k4, k5, k6, k7⟩ := HR.out.2.1.steps j p hp
      have l0 := (Lib.cell_of_heap k2 0).trans (by rfl)
      have l1 := (Lib.cell_of_heap k2 1).trans (by rfl)
      have fz := frozen_of_heap k2 0
      have hst := lk_step (td := td.set n true) (WS := PS.map Plc.way) hj
      have hlk : lkF (td.set n true) (PS.map Plc.way) row k j = lkF (td.set n true) (PS.map Plc.way) row (k + 1) j + 1 := by rw [hst j, if_pos rfl]
      have hoth : ∀ i, i ≠ j → lkF (td.set n true) (PS.map Plc.way) row (k + 1) i = lkF (td.set n true) (PS.map Plc.way) row k i := fun i hi => by rw [hst i, if_neg hi]; rfl
      obtain ⟨m, hm⟩ : ∃ m, lkF (td.set n true) (PS.map Plc.way) row (k + 1) j = m := ⟨_, rfl⟩
      have hwj : (PS.map Plc.way)[j]? = some p.way := by rw [List.getElem?_map, hp]; rfl
      rw [hlk, hm] at l0 k7
      have hS2 : ∀ v : Nat, v = m → Sch n0 K (wr.setCell ⟨p.blk, 0, none⟩ (.int .i64 (v : Nat))) sb hb tb rb hx (td.set n true) (lkF (td.set n true) (PS.map Plc.way) row (k + 1)) RJ PS := fun v hv => by
        subst hv
        have := HR.out.2.1.setLack hp (lk' := lkF (td.set n true) (PS.map Plc.way) row (k + 1)) hoth (by rw [hm]; omega)
        rwa [hm] at this
      have hO2 : ∀ v, Off (fun g => K g ≠ .other) w (wr.setCell ⟨p.blk, 0, none⟩ v) := fun v => Off.trans HR.out.2.2.2.2 (Off.set (S := fun g => K g ≠ .other) wr p.blk 0 v (by rw [k1]; simp)) (fun _ _ h => h) (fun _ _ h => h)
      have hown2 : ∀ (W : World), (∀ g, K g = .row n → W.heap[g]? = wr.heap[g]?) → W.ownsRow 0 99 1 (.slice (some ⟨g, 0, none⟩) row.length cA) row.length (ptrs PS row) := fun W hW => own_same HR.out.2.2.2.1 fun g' hg' => hW g' (HW.out.2.2.2.2 g' hg')
      have hkb : ∀ v g', K g' = .row n → (wr.setCell ⟨p.blk, 0, none⟩ v).heap[g']? = wr.heap[g']? := fun v g' hg' => set_heap_other _ _ _ _ _ fun e => by rw [e, k1] at hg'; cases hg'
      have HP := Lib.hid (And.intro hS2 (And.intro hO2 (And.intro hown2 hkb)))
      have HJ := Lib.hid (And.intro hj (And.intro hp (And.intro hm hwj)))
      have hTIl := HR.out.2.2.1
      clear hgk hst hlk hoth hS2 hO2 hown2 hkb hm hwj k2 hA0
      by_cases hz : m = 0
      · subst hz
        have hTI2 := hTIl.more HJ.out.1 HJ.out.2.2.2 HJ.out.2.2.1 (hTIl.sub.1.symm.trans HF.out.1) (fun q hq => by
          rcases (SB.set (by rw [HF.out.2.2.2.1.lt, ← HF.out.2.2.2.1.lh]; exact HF.out.2.2.2.2.1.lt)).1 hq with rfl | hq
          · exact HF.out.2.2.2.2.1
          · exact HF.out.2.2.2.1.told q hq)
        have hSz := HP.out.1 0 rfl
        obtain ⟨q1, q2, q3, q4, q5, q6, q7⟩ := hSz.steps j p HJ.out.2.1
        have hcall := have_any hSz p.gA p.way.gives.length p.gc p.way.gives q3 q4 q5 q6
        obtain ⟨gv, hgv⟩ : ∃ gv, p.way.gives = gv := ⟨_, rfl⟩
        obtain ⟨lg, hlg⟩ : ∃ lg, gv.length = lg := ⟨_, rfl⟩
        rw [hgv, hlg] at hcall l1
        obtain ⟨b, hbb⟩ : ∃ b, foundB hx (haveF hx gv) = b := ⟨_, rfl⟩
        rw [hbb] at hcall
        rw [hgv] at hTI2
        have HC : Hid (Calls Tryz.prog 30 #[.pointer (some ⟨sb, 0, none⟩), .slice p.gA lg p.gc] (wr.setCell ⟨p.blk, 0, none⟩ (.int .i64 0)) (fun e w' => e = .returned (.bool b) ∧ Sch n0 K w' sb hb tb rb (haveF hx gv) (td.set n true) (lkF (td.set n true) (PS.map Plc.way) row (k + 1)) RJ PS ∧ Off (fun g => K g = .had) (wr.setCell ⟨p.blk, 0, none⟩ (.int .i64 0)) w')) := Lib.hid hcall
        have HB := Lib.hid (And.intro hbb hTI2)
        have hz1 : ((0 + 1 : Nat) : Int) = 1 := rfl
        rw [hz1] at l0
        have hfin : ∀ w4, Off (fun g => K g = .had) (wr.setCell ⟨p.blk, 0, none⟩ (.int .i64 0)) w4 → w4.ownsRow 0 99 1 (.slice (some ⟨g, 0, none⟩) row.length cA) row.length (ptrs PS row) ∧ Off (fun g => K g ≠ .other) w w4 := fun w4 h4 => ⟨HP.out.2.2.1 w4 fun g' hg' => (h4.block g' (by rw [set_size]; exact HR.out.2.1.lt (by rw [hg']; simp)) (by rw [hg']; simp)).trans (HP.out.2.2.2 _ g' hg'), Off.trans (HP.out.2.1 _) h4 (fun _ _ h => h) (fun g _ e => by rw [e]; simp)⟩
        have HFIN := Lib.hid hfin
        have HSUB := Lib.hid hTIl.sub
        clear hcall hbb hTI2 hTIl hSz q1 q2 q3 q4 q5 q6 q7 hz1 hgv hlg k1 k3 k4 k5 k6 k7 HP hfin
        cases b with
        | true =>
          go_wp2_with (go_at_call 30; refine HC.out.mono ?_; rintro e w4 ⟨rfl, hS4, hO4⟩; have HQ := Lib.hid (And.intro hS4 hO4); clear hS4 hO4 HC)
          go_roundg gk'
          case measure => omega
          case rel => exact ⟨k + 1, true, haveF hx gv, rfl, by go_num, HN.out.1, HN.out.2, Lib.hid ⟨(found_yes (sub_ne HSUB.out (have_sub hx gv) (found_iff.1 HB.out.1))).symm, HQ.out.1, HB.out.2, (HFIN.out _ HQ.out.2).1, (HFIN.out _ HQ.out.2).2⟩⟩
        | false =>
          have hsame : haveF hx gv = hx := Classical.byContradiction fun e => by have := HB.out.1; rw [found_yes e] at this; cases this
          have HSM := Lib.hid hsame
          clear hsame
          go_wp2_with (go_at_call 30; refine HC.out.mono ?_; rintro e w4 ⟨rfl, hS4, hO4⟩; have HQ := Lib.hid (And.intro hS4 hO4); clear hS4 hO4 HC)
          go_roundg gk'
          case measure => omega
          case rel => exact ⟨k + 1, f, haveF hx gv, rfl, by go_num, HN.out.1, HN.out.2, Lib.hid ⟨by rw [HSM.out]; exact HR.out.1, HQ.out.1, HB.out.2, (HFIN.out _ HQ.out.2).1, (HFIN.out _ HQ.out.2).2⟩⟩
      · have hTI2 := hTIl.less HJ.out.1 (by rw [HJ.out.2.2.1]; exact hz)
        have hz2 : ¬ ((m + 1 : Nat) : Int) = 1 := by omega
        obtain ⟨z, hzz⟩ : ∃ z : Int, ((m + 1 : Nat) : Int) = z := ⟨_, rfl⟩
        rw [hzz] at l0 hz2
        have hzb : 1 ≤ z ∧ z ≤ 100000 := by omega
        obtain ⟨hzb1, hzb2⟩ := hzb
        have HB := Lib.hid (And.intro hTI2 hzz)
        clear hTI2 hTIl hzz k1 k3 k4 k5 k6 k7 l1
        go_wp2
        go_roundg gk'
        case measure => omega
        case rel =>
          have hzm : z - 1 = ((m : Nat) : Int) := by have := HB.out.2; omega
          rw [hzm]
          exact ⟨k + 1, f, hx, rfl, by go_num, HN.out.1, HN.out.2, Lib.hid ⟨HR.out.1, HP.out.1 m rfl, HB.out.1, HP.out.2.2.1 _ (HP.out.2.2.2 _), HP.out.2.1 _⟩⟩
    · obtain rfl : lr = k := by omega
      have hltz : ¬ (lr : Int) < (lr : Int) := by omega
      clear hgk
      go_wp2
      go_ret
      have hk2 : lr = row.length := HLR.out.symm
      have hS := HR.out.2.1
      have hT := HR.out.2.2.1
      rw [hk2] at hS hT
      refine ⟨hx, by rw [← HR.out.1]; rfl, hS.lks fun j hj => ?_, ?_, HR.out.2.2.2.2⟩
      · rw [lkF_eq, List.drop_length]
        rfl
      · rw [HF.out.1]
        exact HF.out.2.2.2.1.fin HF.out.2.2.2.2.1 hT
end Go.Proofs.YtlhogjigdmpokaaGreatDoor.vtc
namespace Go.Proofs.YtlhogjigdmpokaaGreatDoor.vtc
open Go.RowKit Go.Proofs.YtlhogjigdmpokaaGreatDoor.tlvc Go.Proofs.YtlhogjigdmpokaaGreatDoor.tmc
set_option linter.unusedVariables false
/-- A new list of numbers. -/
def InsPostF (w : World) (zs : List Int) (e : Ending) (w' : World) : Prop := ∃ A c, e = .returned (.slice A zs.length c) ∧ Ins w' A zs.length zs ∧ (zs.length ≤ c ∧ c ≤ maxLen) ∧ Below w.heap.size w w' ∧ (0 < zs.length → ∀ g off, A = some ⟨g, off, none⟩ → w.heap.size ≤ g)
set_option maxRecDepth 100000 in
set_option maxHeartbeats 16000000 in
theorem mentions_far (A : Option Addr) (n c : Nat) (xs : List Int) (below : Int) (w : World) (hb : Bys w A n xs) (hc : n ≤ c) (hm : c ≤ maxLen) (hn : n ≤ 100000) :
    Calls Tryz.prog 34 #[.slice A n c, .int .i64 below] w (InsPostF w (mentionsF xs below)) := by
  have hm9 : c ≤ 9223372036854775807 := by unfold maxLen at hm; omega
  have hlen := hb.len
  have HB := Lib.hid hb
  have HL := Lib.hid hlen
  clear hb hlen
  go_enter Tryz.func34, Tryz.ntmps34
  go_wp2_with fail
  go_loopg [5, 6, 7, 8] (n + 1) (fun gk s5 s6 s7 s8 wx => ∃ (i : Nat) (vk : Value), s5 = vk ∧ s6 = .int .i64 i ∧ i ≤ n ∧ n - i < gk ∧ (i ≤ n - 9) ∧ Hid (wx.ownsRow w.heap.size 3 1 vk (foundF xs below i).length (ivals (foundF xs below i)) ∧ Below w.heap.size w wx))
  case atStart => exact ⟨0, _, rfl, rfl, by omega, by omega, by omega, Lib.hid ⟨World.ownsRow_nil _ _ _ _, Below.refl _ _⟩⟩
  case round =>
    obtain ⟨i, vk, hvk, rfl, hi, hgk, hi9, HI⟩ := hrel
    obtain rfl := hvk.symm
    have hw10 : IntKind.i64.wrap ((i : Int) + 10) = (i : Int) + 10 := IntWalk.i64_in _ (by omega)
    have hw1 : IntKind.i64.wrap ((i : Int) + 1) = (i : Int) + 1 := IntWalk.i64_in _ (by omega)
    have hw2 : IntKind.i64.wrap ((i : Int) + 2) = (i : Int) + 2 := IntWalk.i64_in _ (by omega)
    by_cases hlt : i + 10 ≤ n
    · have hltz : (i : Int) + 10 ≤ (n : Int) := by omega
      obtain ⟨gk', rfl⟩ : ∃ g', gk = g' + 1 := ⟨gk - 1, by omega⟩
      have HN := Lib.hid (And.intro (show i + 1 ≤ n by omega) (And.intro (show n - (i + 1) < gk' by omega) (show i + 1 ≤ n - 9 by omega)))
      obtain ⟨b, off, rfl, hbl, hcell⟩ := HB.out.2.2 (by omega)
      have hbs := HB.out.below HI.out.2
      have e0 : wr.cell? ⟨b, off + i, none⟩ = some (.int .u8 (xs.getD i 0)) := (HI.out.2.cell (p := ⟨b, off + i, none⟩) hbl).trans (hcell i (by omega))
      have e1 : wr.cell? ⟨b, off + (i + 1), none⟩ = some (.int .u8 (xs.getD (i + 1) 0)) := (HI.out.2.cell (p := ⟨b, off + (i + 1), none⟩) hbl).trans (hcell (i + 1) (by omega))
      have b0 : (i : Int) < (n : Int) := by omega
      have b1 : (i : Int) + 1 < (n : Int) := by omega
      have b0n : i < n := by omega
      have b1n : i + 1 < n := by omega
      obtain ⟨x0, hx0⟩ : ∃ x, xs.getD i 0 = x := ⟨_, rfl⟩
      obtain ⟨x1, hx1⟩ : ∃ x, xs.getD (i + 1) 0 = x := ⟨_, rfl⟩
      rw [hx0] at e0
      rw [hx1] at e1
      have HBS := Lib.hid hbs
      clear hbs hcell hgk hi9
      by_cases h4 : x0 = 4
      · by_cases h8 : x1 = 8
        · subst h4 h8
          have hat := atF_yes (b := xs) (i := i) (by rw [HL.out]; exact hlt) hx0 hx1
          have hlo : (i : Int) + 2 ≤ (i : Int) + 10 := by omega
          have hhi : (i : Int) + 10 ≤ (c : Int) := by omega
          have hlon : i + 2 ≤ i + 10 := by omega
          have hhin : i + 10 ≤ c := by omega
          have hsub : Bys wr (some ⟨b, off + (i + 2), none⟩) 8 ((xs.drop (i + 2)).take 8) := by
            have h1 := (HBS.out.cut (k := i + 2) (cap := c) (by omega) hc).upto (k := 8) (by omega)
            rw [if_neg (by omega)] at h1
            simpa [Addr.add_lit] using h1
          have hnum := number_any _ 8 (c - (i + 2)) _ wr hsub (by omega) (by omega)
          rw [← hat] at hnum
          have hmb : ∀ m, atF xs i = some m → 0 ≤ m ∧ m < 281474976710656 := fun m h => atF_bd HB.out.2.1 h
          obtain ⟨r, hr⟩ : ∃ r, atF xs i = r := ⟨_, rfl⟩
          rw [hr] at hnum hmb
          have HNUM := Lib.hid hnum
          clear hsub hnum hat hx0 hx1
          cases r with
          | none =>
            have hf := found_none (below := below) hr
            have HI2 := HI.out
            rw [← hf] at HI2
            have HI3 := Lib.hid HI2
            clear hf HI2 HI hr hmb
            go_wp2_with (go_at_call 60; refine HNUM.out.mono ?_; rintro e w1 ⟨rfl, rfl⟩)
            go_wp2
            go_roundg gk'
            case measure => omega
            case rel => exact ⟨i + 1, vk, rfl, by go_num, HN.out.1, HN.out.2.1, HN.out.2.2, HI3⟩
          | some m =>
            by_cases hmb2 : m < below
            · have hf := found_in hr hmb2
              obtain ⟨v7, w7, hrun, g1, g2, _⟩ := app_int wr w.heap.size vk (foundF xs below i).length _ HI.out.1 m (by have := hmb m rfl; unfold I64; omega) (by have := foundF_len xs below i; omega) HI.out.2.size
              have hb7 := HI.out.2.trans (app_int_below HI.out.1 HI.out.2.size g2)
              have e2 : ivals (foundF xs below i) ++ ivals [m] = ivals (foundF xs below (i + 1)) := by rw [hf, ivals_append]
              have e3 : (foundF xs below i).length + 1 = (foundF xs below (i + 1)).length := by rw [hf, List.length_append]; rfl
              rw [e2, e3] at g1
              have HI3 := Lib.hid (And.intro g1 hb7)
              clear hf e2 e3 g1 g2 hb7 HI hr hmb
              go_wp2_with (first | (go_at_call 60; refine HNUM.out.mono ?_; rintro e w1 ⟨rfl, rfl⟩) | (at_builtin; refine wpl_append rfl (.tmp 45) (.tmp 47) 23 rfl _ _ _ rfl rfl hrun ?_))
              clear hrun
              go_wp2
              go_roundg gk'
              case measure => omega
              case rel => exact ⟨i + 1, v7, rfl, by go_num, HN.out.1, HN.out.2.1, HN.out.2.2, HI3⟩
            · have hf := found_over hr hmb2
              have HI2 := HI.out
              rw [← hf] at HI2
              have HI3 := Lib.hid HI2
              clear hf HI2 HI hr hmb
              go_wp2_with (go_at_call 60; refine HNUM.out.mono ?_; rintro e w1 ⟨rfl, rfl⟩)
              go_wp2
              go_roundg gk'
              case measure => omega
              case rel => exact ⟨i + 1, vk, rfl, by go_num, HN.out.1, HN.out.2.1, HN.out.2.2, HI3⟩
        · have hf := found_none (below := below) (atF_no8 (b := xs) (i := i) (by rw [hx1]; exact h8))
          have HI2 := HI.out
          rw [← hf] at HI2
          have HI3 := Lib.hid HI2
          subst h4
          clear hf HI2 hx0 hx1 HI
          go_wp2
          go_roundg gk'
          case measure => omega
          case rel => exact ⟨i + 1, vk, rfl, by go_num, HN.out.1, HN.out.2.1, HN.out.2.2, HI3⟩
      · have hf := found_none (below := below) (atF_no4 (b := xs) (i := i) (by rw [hx0]; exact h4))
        have HI2 := HI.out
        rw [← hf] at HI2
        have HI3 := Lib.hid HI2
        clear hf HI2 hx0 hx1 HI
        go_wp2
        go_roundg gk'
        case measure => omega
        case rel => exact ⟨i + 1, vk, rfl, by go_num, HN.out.1, HN.out.2.1, HN.out.2.2, HI3⟩
    · have hltz : ¬ (i : Int) + 10 ≤ (n : Int) := by omega
      have hi2 : i = xs.length - 9 := by rw [HL.out]; omega
      have hI := HI.out
      have hmen := mentions_found xs below
      rw [← hi2] at hmen
      have hfit := foundF_fit HB.out.2.1 below i
      have hll := foundF_len xs below i
      obtain ⟨zs, hzs⟩ : ∃ x, foundF xs below i = x := ⟨_, rfl⟩
      rw [hzs] at hI hmen hfit hll
      have hmf : Fit8 (Lib.compact (sortZ zs)) := fun x hx => hfit x (((compactZ zs).2 x).1 hx)
      obtain ⟨A6, c6, rfl, hl6, hm6, hA6⟩ := own_shape hI.1
      by_cases h0 : zs = []
      · subst h0
        have hM : mentionsF xs below = [] := by rw [← hmen]; exact List.eq_nil_iff_forall_not_mem.2 fun x hx => absurd (((compactZ []).2 x).1 hx) (by simp)
        have HM := Lib.hid hM
        have HE := Lib.hid hI.2
        have HS := Lib.hid fun W => (show Calls Tryz.prog 61 #[.slice A6 0 c6] W _ from Any.slices_Sort_int_none Tryz.lays189 A6 c6 W)
        have HC := Lib.hid fun W => (show Calls Tryz.prog 62 #[.slice A6 0 c6] W _ from Any.slices_Compact_int_empty Tryz.lays20 A6 c6 W)
        have HG := Lib.hid (And.intro hl6 hm6)
        have hz : ([] : List Int).length = 0 := rfl
        rw [hz]
        clear hz hI HI hmen hfit hll hmf hA6 hM hgk hi9 hl6 hm6 hi2 hzs
        go_wp2_with (first | (go_at_call 61; refine (HS.out _).mono ?_; rintro e w1 ⟨rfl, rfl⟩) | (go_at_call 62; refine (HC.out _).mono ?_; rintro e w2 ⟨rfl, rfl⟩))
        go_ret
        rw [HM.out]
        exact ⟨A6, c6, rfl, Ins.nil_ _ _, HG.out, HE.out, fun h => absurd h (by simp)⟩
      · have hpos : 0 < zs.length := List.length_pos_iff.2 h0
        obtain ⟨g, rfl, hg1, hg2⟩ := hA6 0 hpos
        have hsort := sort_own w.heap.size g zs.length c6 zs wr hI.1 (by omega)
        have hcomp := fun W hW => compact_own w.heap.size g zs.length c6 (sortZ zs) W hW (by omega)
        have HS := Lib.hid hsort
        have HC := Lib.hid hcomp
        have HE := Lib.hid hI
        have HG := Lib.hid (And.intro hg1 (And.intro hmf hmen))
        obtain ⟨l, hl⟩ : ∃ x, zs.length = x := ⟨_, rfl⟩
        rw [hl] at HS HC ⊢
        clear hI HI hmen hfit hll hmf hA6 hgk hi9 hl6 hm6 hsort hcomp hpos hg2 h0 hi2 hzs hl
        go_wp2_with (first | (go_at_call 61; refine HS.out.mono ?_; rintro e w1 ⟨rfl, hs1, hs2⟩) | (go_at_call 62; refine (HC.out _ hs1).mono ?_; rintro e w2 ⟨rfl, hs3, hs4⟩))
        go_ret
        have hsz := HE.out.2.size
        have hb2 : Below w.heap.size w w2 := (HE.out.2.grown hs2 hsz (fun j hj => by cases hj; exact HG.out.1)).grown hs4 (Nat.le_trans hsz hs2.size) (fun j hj => by cases hj; exact HG.out.1)
        obtain ⟨_, _, e9, hl9, hm9, _⟩ := own_shape hs3
        cases e9
        rw [← HG.out.2.2]
        exact ⟨_, c6, rfl, Ins.own hs3 HG.out.2.1, ⟨hl9, hm9⟩, hb2, fun _ g' off' e => by cases e; exact HG.out.1⟩
end Go.Proofs.YtlhogjigdmpokaaGreatDoor.vtc
namespace Go.Proofs.YtlhogjigdmpokaaGreatDoor.vtc
open Go.RowKit Go.Proofs.YtlhogjigdmpokaaGreatDoor.tlvc Go.Proofs.YtlhogjigdmpokaaGreatDoor.tmc
set_option linter.unusedVariables false
theorem ins_post {w w' : World} {zs : List Int} {v : Value} (h : w'.ownsRow w.heap.size 3 1 v zs.length (ivals zs)) (hf : Fit8 zs) (hb : Below w.heap.size w w') : InsPostF w zs (.returned v) w' := by
  obtain ⟨A, c, rfl, h1, h2, h3⟩ := own_shape h
  exact ⟨A, c, rfl, Ins.own h hf, ⟨h1, h2⟩, hb, fun hp g off e => by obtain ⟨g', e', hg, _⟩ := h3 0 hp; rw [e'] at e; cases e; exact hg⟩
set_option maxRecDepth 100000 in
set_option maxHeartbeats 8000000 in
theorem numbers_any {S B : Nat → Prop} {vb mb : Nat} {ob : Option Nat} {L : List Tm} (K : Option Addr) (n ck : Nat) (ks : List Tm) (w : World) (hV : Vlt S w vb mb ob L) (ht : txc.Tab w.heap.size w) (hlen : ks.length = n) (hlc : n ≤ ck) (hck9 : ck ≤ 9223372036854775807)
    (hkid : ∀ W, Below w.heap.size w W → ∀ i, i < n → ∃ k g off d0 d1 d2 d3, ks[i]? = some k ∧ K = some ⟨g, off, none⟩ ∧ W.cell? ⟨g, off + i * 4, none⟩ = some d0 ∧ W.cell? ⟨g, off + i * 4 + 1, none⟩ = some d1 ∧ W.cell? ⟨g, off + i * 4 + 2, none⟩ = some d2 ∧ W.cell? ⟨g, off + i * 4 + 3, none⟩ = some d3 ∧ TmC B W k d0 d1 d2 d3)
    (hn : n ≤ 10000) (hall : ∀ k ∈ ks, k ∈ L) (hsz : ∀ t ∈ L, szT t ≤ 10000) :
    Calls Tryz.prog 52 #[.pointer (some ⟨vb, 0, none⟩), .slice K n ck] w (InsPostF w (kidsN L ks)) := by
  have HKID := Lib.hid hkid
  have HL := Lib.hid (And.intro hlen (And.intro hall hsz))
  have HV := Lib.hid hV
  have HT := Lib.hid ht
  clear hkid hlen hall hsz hV ht
  go_enter Tryz.func52, Tryz.ntmps52
  go_wp2_with fail
  go_loopg [5, 12] (n + 1) (fun gk s5 s12 wx => ∃ (i : Nat) (vks : Value), s5 = vks ∧ s12 = .int .i64 i ∧ i ≤ n ∧ n - i < gk ∧ Hid (wx.ownsRow w.heap.size 3 1 vks i (ivals (kidsN L (ks.take i))) ∧ Below w.heap.size w wx ∧ ∀ k ∈ ks.take i, k ∈ L))
  case atStart => exact ⟨0, _, rfl, rfl, by omega, by omega, Lib.hid ⟨by rw [List.take_zero]; exact World.ownsRow_nil _ _ _ _, Below.refl _ _, fun k hk => by simp at hk⟩⟩
  case round =>
    obtain ⟨i, vks, hv9, rfl, hi, hgk, HI⟩ := hrel
    obtain rfl := hv9.symm
    by_cases hlt : i < n
    · have hltz : (i : Int) < (n : Int) := by omega
      obtain ⟨gk', rfl⟩ : ∃ g', gk = g' + 1 := ⟨gk - 1, by omega⟩
      have HN12 := Lib.hid (And.intro (show i + 1 ≤ n from hlt) (show n - (i + 1) < gk' by omega))
      obtain ⟨k, g, off, d0, d1, d2, d3, hki, rfl, e0, e1, e2, e3, hd⟩ := HKID.out wr HI.out.2.1 i hlt
      obtain ⟨to, tm, tA, tla, tca, tK, tlk, tck, q0, q1, q2, q3⟩ := hd.shape
      subst q0 q1 q2 q3
      have hnew : Below wr.heap.size wr (wr.alloc (.cells #[.int .i64 to, .int .i64 tm, .slice tA tla tca, .slice tK tlk tck] 43)) := below_new _ _
      have hbx := HI.out.2.1.trans (hnew.mono HI.out.2.1.size)
      have hmem : k ∈ ks := List.mem_of_getElem? hki
      have hkm : k ∈ L := HL.out.2.1 k hmem
      have C1 := find_any S B vb mb ob L k (.agg #[.int .i64 to, .int .i64 tm, .slice tA tla tca, .slice tK tlk tck]) (wr.alloc (.cells #[.int .i64 to, .int .i64 tm, .slice tA tla tca, .slice tK tlk tck] 43)) (HV.out.below hbx) ⟨_, _, _, _, rfl, TmC.below hnew _ _ _ _ _ hd⟩ ((HT.out.on hbx).mono hbx.size) (HL.out.2.2 k hkm)
      obtain ⟨j, hfk⟩ := findV_mem hkm
      rw [hfk, numI_some hfk] at C1
      have hj := findV_lt hfk
      have hLl := HV.out.len
      have hstep := fun (w2 : World) (hb2 : Below (wr.alloc (.cells #[.int .i64 to, .int .i64 tm, .slice tA tla tca, .slice tK tlk tck] 43)).heap.size (wr.alloc (.cells #[.int .i64 to, .int .i64 tm, .slice tA tla tca, .slice tK tlk tck] 43)) w2) => num_app HI.out.1 hbx hnew hb2 hki hfk (by omega) HI.out.2.2 hkm (show j < 4096 by omega)
      have HC1 := Lib.hid C1
      have HS := Lib.hid hstep
      clear C1 hfk hmem hki hd hnew hgk hj hkm hstep HI hbx hLl
      go_wp2_with (first | (at_builtin; refine wpl_append rfl (.tmp 23) (.tmp 25) 23 rfl _ _ _ rfl rfl hrun ?_) | (go_at_call 17; refine HC1.out.mono ?_; rintro e w2 ⟨rfl, hb2⟩; obtain ⟨v7, w7, hrun, hI2⟩ := HS.out w2 hb2; have HI2 := Lib.hid hI2; clear hI2 hb2))
      clear hrun HC1 HS e0 e1 e2 e3
      go_wp2
      go_roundg gk'
      case measure => omega
      case rel => exact ⟨i + 1, v7, rfl, by go_num, HN12.out.1, HN12.out.2, HI2⟩
    · have hltz : ¬ (i : Int) < (n : Int) := by omega
      obtain rfl : n = i := by omega
      clear hgk
      go_wp2
      go_ret
      have h1 := HI.out.1
      rw [List.take_of_length_le (by rw [HL.out.1]; exact Nat.le_refl _)] at h1
      have hl : (kidsN L ks).length = n := (kidsN_len _ _).trans HL.out.1
      have h2 := ins_post (w := w) (zs := kidsN L ks) (by rw [hl]; exact h1) (kidsN_fit (by have := HV.out.len; omega)) HI.out.2.1
      exact h2
set_option maxRecDepth 100000 in
set_option maxHeartbeats 4000000 in
/-- Room for so many. -/
theorem grow_any (n : Nat) (hn : n ≤ 1000000) (w : World) : Calls Tryz.prog 76 #[.slice none 0 0, .int .i64 n] w fun e w' => ∃ v, e = .returned v ∧ w'.ownsRow w.heap.size 3 1 v 0 [] ∧ Below w.heap.size w w' := by
  obtain ⟨i0, hi, hz0, hz1, hz2⟩ := info_parts Tryz.infoInt
  by_cases h0 : n = 0
  · subst h0
    go_enter Tryz.func76, Tryz.ntmps76
    go_wp2
    go_ret
    exact ⟨_, rfl, World.ownsRow_nil _ _ _ _, Below.refl _ _⟩
  · have hrz := Lib.run_append_nil_zeros (P := Tryz.prog) w 23 3 23 3 i0 (.int .i64 0) .i64 .i64 Tryz.underlying23 Tryz.underlying3 hi hz0 n (by omega) (by rw [hz1]; decide) (by omega) (by rw [hz2]; omega)
    have hG1 := grownCap_ge w n 0 3
    have hG2 := grownCap_le_maxLen w n 0 3 (by unfold maxLen; omega)
    obtain ⟨G, hG⟩ : ∃ G, grownCap w n 0 3 = G := ⟨_, rfl⟩
    rw [hG] at hrz hG1 hG2
    obtain ⟨cur, hcur⟩ : ∃ x, Builtin.zeroCells (Value.int .i64 0).cells n ++ Builtin.zeroCells (Value.int .i64 0).cells (G - n) = x := ⟨_, rfl⟩
    have hcs : cur.size = G := by
      rw [← hcur, Array.size_append, size_zeroCells, size_zeroCells]
      show n * 1 + (G - n) * 1 = G
      omega
    rw [hcur] at hrz
    have hb : Below w.heap.size w (w.drew.alloc (.cells cur 3)) := ((Below.refl _ _).drew).trans (below_new w.drew _)
    have hnew : (w.drew.alloc (.cells cur 3)).heap[w.heap.size]? = some (.cells cur 3) := heap_new_ w.drew _
    have hG9 : G ≤ 9223372036854775807 := by unfold maxLen at hG2; omega
    have hpos : (0 : Int) < (n : Int) := by omega
    have HF := Lib.hid (And.intro hcs (And.intro hb (And.intro hnew hG2)))
    clear hG hcur hcs hb hnew hG2 hi hz0 hz1 hz2
    go_enter Tryz.func76, Tryz.ntmps76
    go_wp2_with (at_builtin; refine Lib.wpList_append_run _ rfl (.tmp 20) (.tmp 21) 23 3 rfl _ _ rfl rfl _ _ hrz ?_)
    go_ret
    exact ⟨_, rfl, ⟨by simp, .inr ⟨w.heap.size, G, cur, rfl, Nat.le_refl _, HF.out.2.2.1, Nat.zero_le _, HF.out.2.2.2, by rw [HF.out.1, Nat.mul_one], by simp⟩⟩, HF.out.2.1⟩
end Go.Proofs.YtlhogjigdmpokaaGreatDoor.vtc
