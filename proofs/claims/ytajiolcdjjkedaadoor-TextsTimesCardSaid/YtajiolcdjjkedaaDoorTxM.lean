/- The program's clockOf: what a time's body shows. -/
import Derived.Test.YtajiolcdjjkedaaDoorTxE
import Derived.Test.YtajiolcdjjkedaaDoorTxB2
import Derived.StillTailTactics
namespace Go.Proofs.YtajiolcdjjkedaaDoor.txm
/-- The field at place j, be it there or not; all of them when the first k are read. -/
def fldAt (tag : Int) (xs : List Int) (j : Nat) : Int := if tag = 23 then (if j = 0 then 0 else pr xs (j - 1)) else pr xs j
def fldK (tag : Int) (xs : List Int) (k : Nat) : List Int := (List.range 7).map fun j => if j < k then fldAt tag xs j else 0
/-- How many pairs are gone through. -/
def gone (tag : Int) (n k : Nat) : Nat := min (if tag = 23 then k - 1 else k) (n / 2)
theorem fldK_len (tag : Int) (xs : List Int) (k : Nat) : (fldK tag xs k).length = 7 := by simp [fldK]
theorem fldK_zero (tag : Int) (xs : List Int) : fldK tag xs 0 = [0, 0, 0, 0, 0, 0, 0] := rfl
theorem fldK_getD {tag : Int} {xs : List Int} {k j : Nat} (h : j < 7) : (fldK tag xs k).getD j 0 = if j < k then fldAt tag xs j else 0 := by
  simp [fldK, List.getD_eq_getElem?_getD, h]
theorem fldK_set (tag : Int) (xs : List Int) {k : Nat} (h : k < 7) {v : Int} (hv : v = fldAt tag xs k) : (fldK tag xs k).set k v = fldK tag xs (k + 1) := by
  subst hv
  apply List.ext_getElem?
  intro j
  rw [List.getElem?_set, fldK_len]
  by_cases hj : j < 7
  · by_cases e : k = j
    · subst e; simp [fldK, h]
    · rw [if_neg e]
      simp only [fldK, List.getElem?_map, List.getElem?_range hj, Option.map_some]
      have : (j < k + 1) = (j < k) := propext ⟨fun h => by omega, fun h => by omega⟩
      simp only [this]
  · have e : k ≠ j := by omega
    rw [if_neg e, List.getElem?_eq_none (by rw [fldK_len]; omega), List.getElem?_eq_none (by rw [fldK_len]; omega)]
theorem fldK_skip (tag : Int) (xs : List Int) {k : Nat} (h : k < 7) (hv : fldAt tag xs k = 0) : fldK tag xs (k + 1) = fldK tag xs k := by
  rw [← fldK_set tag xs h rfl, hv]
  apply List.ext_getElem?
  intro j
  rw [List.getElem?_set, fldK_len]
  by_cases e : k = j
  · subst e; simp [fldK, h]
  · rw [if_neg e]
theorem dgt_bd (x : Int) : 0 ≤ dgt x ∧ dgt x ≤ 255 := by unfold dgt; omega
theorem pr_bd (xs : List Int) (j : Nat) : 0 ≤ pr xs j ∧ pr xs j ≤ 2805 := by
  have a := dgt_bd (xs.getD (2 * j) 0)
  have b := dgt_bd (xs.getD (2 * j + 1) 0)
  unfold pr; split <;> omega
theorem flds7 (tag : Int) (xs : List Int) : fldsOf tag xs = if tag = 23 then (fldK 23 xs 7).set 0 (cent (pr xs 0)) else fldK tag xs 7 := by
  unfold fldsOf
  split
  · rfl
  · rename_i h
    simp [fldK, fldAt, h, List.range, List.range.loop]
end Go.Proofs.YtajiolcdjjkedaaDoor.txm
namespace Go.Proofs.YtajiolcdjjkedaaDoor.txc
open Go.RowKit Go.Proofs.YtajiolcdjjkedaaDoor.txm Go.Proofs.YtajiolcdjjkedaaDoor.tlvc
set_option linter.unusedVariables false

/-- The clock's block, and what is left of the body. -/
def ClockAt (w wr : World) (fs : List Int) : Prop :=
  wr.heap[w.heap.size]? = some (.cells #[.int .i64 0, .int .i64 0, .int .i64 0, .int .i64 0, .int .i64 0, .int .i64 0, .int .i64 0] 58) ∧ wr.heap[w.heap.size + 1]? = some (.cells (ints fs) 58) ∧ Below w.heap.size w wr
theorem ClockAt.drew {w wr : World} {fs : List Int} (h : ClockAt w wr fs) : ClockAt w wr.drew fs := ⟨h.1, h.2.1, h.2.2.drew⟩
theorem ints_set (fs : List Int) (k : Nat) (v : Int) : (ints fs).setIfInBounds k (.int .i64 v) = ints (fs.set k v) := by
  unfold ints
  rw [List.map_set]
  simp
theorem ClockAt.store {w wr : World} {fs : List Int} (h : ClockAt w wr fs) (k : Nat) (v : Int) : ClockAt w (wr.setCell ⟨w.heap.size + 1, k, none⟩ (.int .i64 v)) (fs.set k v) := by
  obtain ⟨h1, h2, h3⟩ := h
  refine ⟨?_, ?_, h3.setCell (p := ⟨w.heap.size + 1, k, none⟩) (by simp) _⟩
  · rw [Below.heap_setCell _ _ _ _ (by simp)]; exact h1
  · rw [heap_set h2 k _, ints_set]
theorem ClockAt.cell {w wr : World} {fs : List Int} (h : ClockAt w wr fs) {k : Nat} (hk : k < fs.length) : wr.cell? ⟨w.heap.size + 1, k, none⟩ = some (.int .i64 (fs.getD k 0)) := by
  rw [Lib.cell_of_heap h.2.1]
  simp [ints, List.getD_eq_getElem?_getD, List.getElem?_eq_getElem hk]
theorem ClockAt.free {w wr : World} {fs : List Int} (h : ClockAt w wr fs) (k : Nat) : wr.frozen? ⟨w.heap.size + 1, k, none⟩ = false := Lib.frozen_of_heap h.2.1 k
end Go.Proofs.YtajiolcdjjkedaaDoor.txc
