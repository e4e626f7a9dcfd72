/- A number's mention; the document's number of bytes, bytes and mention. -/
import Derived.Test.YtfmdmahlljbbmaaGreatDoorVn
import Derived.Test.YtfmdmahlljbbmaaGreatDoorVe
namespace Go.Proofs.YtfmdmahlljbbmaaGreatDoor.vtc
open Go.RowKit Go.Proofs.YtfmdmahlljbbmaaGreatDoor.tlvc Go.Proofs.YtfmdmahlljbbmaaGreatDoor.tmc
set_option linter.unusedVariables false
def BysPost (w : World) (xs : List Int) (e : Ending) (w' : World) : Prop := ∃ A c, e = .returned (.slice A xs.length c) ∧ Bys w' A xs.length xs ∧ (xs.length ≤ c ∧ c ≤ maxLen) ∧ Below w.heap.size w w'
theorem hbF_none {n : Int} (h : ¬ (0 ≤ n ∧ n < 281474976710656)) : hbF n = [] := if_neg h
theorem menF_none {n : Int} (h : ¬ (0 ≤ n ∧ n < 281474976710656)) : menF n = [] := if_neg h
theorem nil_post (w : World) : BysPost w [] (.returned (.slice none 0 0)) w := ⟨none, 0, rfl, Bys.nil_ _ _, ⟨Nat.le_refl _, Nat.zero_le _⟩, Below.refl _ _⟩
theorem hb_bys (n : Int) (w : World) (h : 0 ≤ n ∧ n < 281474976710656) : Bys (w.alloc (.cells (vals (hbF n)).toArray 5)) (some ⟨w.heap.size, 0, none⟩) 8 (hbF n) :=
  ⟨hbF_len h, hbF_fit n, fun _ => ⟨w.heap.size, 0, rfl, by simp, fun j hj => by
    rw [Nat.zero_add, Lib.cell_of_heap (heap_new_ _ _)]
    simp [vals, List.getD_eq_getElem?_getD, List.getElem?_eq_getElem (show j < (hbF n).length by rw [hbF_len h]; exact hj)]⟩⟩
/-- Two bytes, and others behind them. -/
theorem app_two (w : World) (x y : Int) (A : Option Addr) (m c : Nat) (ys : List Int) (hb : Bys w A m ys) (hm : m ≤ 100) (hx : 0 ≤ x ∧ x ≤ 255) (hy : 0 ≤ y ∧ y ≤ 255) :
    ∃ A' c' w', (Builtin.append_ #[29, 29] 29 #[.slice (some ⟨w.heap.size, 0, none⟩) 2 2, .slice A m c]).run Tryz.prog (w.alloc (.cells #[.int .u8 x, .int .u8 y] 5)) = .ok (.slice A' (2 + m) c') w' ∧ w'.ownsRow w.heap.size 5 1 (.slice A' (2 + m) c') (2 + m) (vals (x :: y :: ys)) ∧ Bys w' A' (2 + m) (x :: y :: ys) ∧ (2 + m ≤ c' ∧ c' ≤ maxLen) ∧ Below w.heap.size w w' := by
  obtain ⟨v', w', h1, h2, h3, _⟩ := app_long (w.alloc (.cells #[.int .u8 x, .int .u8 y] 5)) w.heap.size (.slice (some ⟨w.heap.size, 0, none⟩) 2 2) 2 (vals [x, y]) (World.ownsRow_lit w #[.int .u8 x, .int .u8 y] 2 (Nat.le_refl _) (by decide) rfl) A m c ys (hb.alloc _) (by omega) (by simp)
  rw [← vals_append] at h2
  obtain ⟨A', c', rfl, g1, g2, _⟩ := own_shape h2
  refine ⟨A', c', w', h1, h2, Bys.own h2 (fun z hz => ?_), ⟨g1, g2⟩, (below_new w _).grown h3 (by simp) fun j hj => by have hj : some w.heap.size = some j := hj; cases hj; exact Nat.le_refl _⟩
  have hz : z ∈ x :: y :: ys := hz
  rw [List.mem_cons, List.mem_cons] at hz
  rcases hz with rfl | rfl | hz
  · exact hx
  · exact hy
  · exact hb.2.1 z hz
theorem hbF_at {n : Int} (h : 0 ≤ n ∧ n < 281474976710656) (j : Nat) (hj : j < 6) : (hbF n).take (2 + j + 1) = (hbF n).take (2 + j) ++ [(hbF n).getD (2 + j) 0] := by
  rw [List.take_succ_eq_append_getElem (by rw [hbF_len h]; omega), List.getD_eq_getElem?_getD, List.getElem?_eq_getElem (by rw [hbF_len h]; omega)]
  rfl
end Go.Proofs.YtfmdmahlljbbmaaGreatDoor.vtc
