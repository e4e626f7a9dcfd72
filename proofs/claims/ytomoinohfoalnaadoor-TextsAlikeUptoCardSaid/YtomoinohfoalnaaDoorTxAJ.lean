/- A block of bytes of the call's own, written cell by cell; a text's bytes with great letters; a text parted at a blank. -/
import Derived.Test.YtomoinohfoalnaaDoorTxAI
import Derived.Test.YtomoinohfoalnaaDoorKitB
import Derived.Laws.IdiomStrings
import Derived.Lib.ValidAsc
import Derived.Laws.Entries
namespace Go.Proofs.YtomoinohfoalnaaDoor.tlvc
open Go.RowKit
set_option linter.unusedVariables false
/-- Block g holds n bytes at its beginning, none of them frozen. -/
def Gr (w : World) (g n : Nat) (f : Nat → Int) : Prop := g < w.heap.size ∧ ∀ j, j < n → w.cell? ⟨g, j, none⟩ = some (.int .u8 (f j)) ∧ w.frozen? ⟨g, j, none⟩ = false
theorem Gr.set {w : World} {g n : Nat} {f : Nat → Int} (h : Gr w g n f) {k : Nat} (hk : k < n) (z : Int) : Gr (w.setCell ⟨g, k, none⟩ (.int .u8 z)) g n (fun j => if j = k then z else f j) := by
  refine ⟨by simpa [World.setCell] using h.1, fun j hj => ⟨?_, ?_⟩⟩
  · by_cases e : j = k
    · subst e
      show _ = some (Value.int .u8 (if j = j then z else f j))
      rw [if_pos rfl]
      exact World.cell?_setCell_same _ _ _ (h.2 j hj).1
    · show _ = some (Value.int .u8 (if j = k then z else f j))
      rw [if_neg e, World.cell?_setCell_other _ _ _ _ (by intro hh; exact e (by injection hh with _ h2; exact h2.symm))]
      exact (h.2 j hj).1
  · rw [World.frozen?_setCell]; exact (h.2 j hj).2
theorem Gr.congr {w : World} {g n : Nat} {f f' : Nat → Int} (h : Gr w g n f) (e : ∀ j, j < n → f j = f' j) : Gr w g n f' := ⟨h.1, fun j hj => by rw [← e j hj]; exact h.2 j hj⟩
theorem Gr.drewN {w : World} {g n : Nat} {f : Nat → Int} (h : Gr w g n f) (q : Nat) : Gr (w.drewN q) g n f := h
theorem Gr.below {w w' : World} {g n : Nat} {f : Nat → Int} (h : Gr w g n f) (hb : Below w.heap.size w w') : ∀ j, j < n → w'.cell? ⟨g, j, none⟩ = some (.int .u8 (f j)) := fun j hj => (hb.cell (p := ⟨g, j, none⟩) h.1).trans (h.2 j hj).1
end Go.Proofs.YtomoinohfoalnaaDoor.tlvc
namespace Go.Proofs.YtomoinohfoalnaaDoor.txm
open Go.RowKit Go.Proofs.YtomoinohfoalnaaDoor.tlvc
set_option linter.unusedVariables false
def upI (x : Int) : Int := if 97 ≤ x ∧ x ≤ 122 then x - 32 else x
/-- The bytes of a text, as numbers. -/
def numAt (s : ByteArray) (j : Nat) : Int := ((s.get! j).toNat : Int)
theorem numAt_bd (s : ByteArray) (j : Nat) : 0 ≤ numAt s j ∧ numAt s j ≤ 255 := by
  have := (s.get! j).toNat_lt
  unfold numAt; omega
theorem gr_new (w : World) (s : ByteArray) (cap : Nat) (e : TypeId) : Gr (w.alloc (.cells (bytesRow s cap) e ((bytesRow s cap).size, (bytesRow s cap).size + 1))) w.heap.size s.size (numAt s) := by
  refine ⟨by simp, fun j hj => ?_⟩
  have hb := bytesRow_at s cap j hj
  have hlt : j < (bytesRow s cap).size := by
    rcases Nat.lt_or_ge j (bytesRow s cap).size with h | h
    · exact h
    · rw [Array.getElem?_eq_none h] at hb; cases hb
  constructor
  · rw [World.cell?_alloc_mark]
    have e2 : s.get! j = s.data[j] := by show s.data[j]! = _; rw [getElem!_pos]
    show (bytesRow s cap)[j]? = _
    rw [hb]; unfold numAt; rw [e2]
  · rw [World.frozen?_alloc_mark, decide_eq_false (by omega : ¬ (bytesRow s cap).size ≤ j)]
    rfl
/-- A text of great letters. -/
theorem up_text {s : ByteArray} {ys : List Int} (hl : ys.length = s.size) (h : ∀ j, j < s.size → ys.getD j 0 = upI (numAt s j)) : strOfNums ys = ⟨(s.data.toList.map up8).toArray⟩ := by
  apply ByteArray.ext
  apply Array.ext'
  show (strOfNums ys).data.toList = _
  rw [strOfNums_data]
  apply List.ext_getElem?
  intro j
  have hz : s.data.toList.length = s.size := Array.length_toList
  rw [List.getElem?_map, List.getElem?_map]
  rcases Nat.lt_or_ge j s.size with hj | hj
  · have h1 := h j hj
    rw [List.getD_eq_getElem?_getD, List.getElem?_eq_getElem (by omega)] at h1
    rw [List.getElem?_eq_getElem (by omega), List.getElem?_eq_getElem (by omega)]
    simp only [Option.map_some, Option.some.injEq]
    simp only [Option.getD_some] at h1
    rw [h1]
    have e2 : s.get! j = s.data.toList[j] := by
      rw [Array.getElem_toList]; show s.data[j]! = _; rw [getElem!_pos]
    unfold upI numAt
    rw [e2]
    unfold up8 upN
    split
    · rw [if_pos (by omega)]
      congr 1; omega
    · rw [if_neg (by omega)]
      congr 1
  · rw [List.getElem?_eq_none (by omega), List.getElem?_eq_none (by omega)]
    rfl
/-- A text parted at a blank, with blanks for that one. -/
theorem split_text {b s : ByteArray} (hb : BlankB b) {i : Nat} (hi : i < s.size) (h32 : numAt s i = 32) : prepF (s.extract 0 i ++ b ++ b ++ s.extract i s.size) = prepF s := by
  have h1 : s.extract i s.size = ⟨#[32]⟩ ++ s.extract (i + 1) s.size := by
    apply ByteArray.ext
    apply Array.ext'
    have hz : s.data.toList.length = s.size := Array.length_toList
    rw [ByteArray.data_append, Array.toList_append]
    rw [Lib.ext_list, Lib.ext_list]
    rw [List.drop_eq_getElem_cons (by omega)]
    have e2 : s.data.toList[i]'(by omega) = s.get! i := by
      rw [Array.getElem_toList]; show _ = s.data[i]!; rw [getElem!_pos]
    have e3 : s.get! i = 32 := by
      unfold numAt at h32
      have : (s.get! i).toNat = 32 := by omega
      exact UInt8.toNat.inj this
    rw [e2, e3]
    rfl
  have h2 : s.extract 0 i ++ s.extract i s.size = s := by
    apply ByteArray.ext
    apply Array.ext'
    rw [ByteArray.data_append, Array.toList_append, Lib.ext_list]
    have : (s.extract 0 i).data.toList = s.data.toList.take i := by
      rw [Lib.extract_data]; simp
    rw [this]
    exact List.take_append_drop _ _
  rw [h1, prepF_split hb, ← h1, h2]
end Go.Proofs.YtomoinohfoalnaaDoor.txm
