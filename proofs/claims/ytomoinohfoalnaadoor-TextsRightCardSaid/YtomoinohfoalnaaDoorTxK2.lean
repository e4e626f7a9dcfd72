/- Blocks that are known whole: stores into them. -/
import Derived.Test.YtomoinohfoalnaaDoorTxK
namespace Go.Proofs.YtomoinohfoalnaaDoor.txc
open Go.RowKit Go.Proofs.YtomoinohfoalnaaDoor.tlvc
set_option linter.unusedVariables false
theorem heap_set {w : World} {b : Nat} {c : Array Value} {T : TypeId} {fr : Nat × Nat} (h : w.heap[b]? = some (.cells c T fr)) (j : Nat) (v : Value) : (w.setCell ⟨b, j, none⟩ v).heap[b]? = some (.cells (c.setIfInBounds j v) T fr) := by
  have hlt : b < w.heap.size := (Array.getElem?_eq_some_iff.1 h).1
  simp only [World.setCell, Array.getElem?_modify, if_pos, h, Option.map_some, Option.isSome_none, Bool.false_eq_true, if_false]
theorem heap_set7 {w : World} {b : Nat} {T : TypeId} {fr : Nat × Nat} {x0 x1 x2 x3 x4 x5 x6 : Value} (h : w.heap[b]? = some (.cells #[x0, x1, x2, x3, x4, x5, x6] T fr)) (v0 v1 v2 v3 v4 v5 v6 : Value) :
    (((((((w.setCell ⟨b, 0, none⟩ v0).setCell ⟨b, 1, none⟩ v1).setCell ⟨b, 2, none⟩ v2).setCell ⟨b, 3, none⟩ v3).setCell ⟨b, 4, none⟩ v4).setCell ⟨b, 5, none⟩ v5).setCell ⟨b, 6, none⟩ v6).heap[b]? = some (.cells #[v0, v1, v2, v3, v4, v5, v6] T fr) := by
  have h0 := heap_set h 0 v0
  have h1 := heap_set h0 1 v1
  have h2 := heap_set h1 2 v2
  have h3 := heap_set h2 3 v3
  have h4 := heap_set h3 4 v4
  have h5 := heap_set h4 5 v5
  have h6 := heap_set h5 6 v6
  rw [h6]; simp
theorem below_set7 {B b : Nat} {a w : World} (h : Below B a w) (hb : B ≤ b) (v0 v1 v2 v3 v4 v5 v6 : Value) :
    Below B a (((((((w.setCell ⟨b, 0, none⟩ v0).setCell ⟨b, 1, none⟩ v1).setCell ⟨b, 2, none⟩ v2).setCell ⟨b, 3, none⟩ v3).setCell ⟨b, 4, none⟩ v4).setCell ⟨b, 5, none⟩ v5).setCell ⟨b, 6, none⟩ v6) :=
  ((((((h.setCell hb _).setCell hb _).setCell hb _).setCell hb _).setCell hb _).setCell hb _).setCell hb _
theorem bys_new {w : World} {ys : List Int} {c : Array Value} {e : TypeId} (hf : Fit ys) (hc : c = (vals ys).toArray) : Bys (w.alloc (.cells c e)) (some ⟨w.heap.size, 0, none⟩) ys.length ys := by
  subst hc
  refine ⟨rfl, hf, fun _ => ⟨_, _, rfl, by simp, fun j hj => ?_⟩⟩
  rw [Nat.zero_add, World.cell?_alloc_mark]
  simp [vals, List.getD_eq_getElem?_getD, List.getElem?_eq_getElem hj]
theorem bys_new1 (w : World) {a : Int} (e : TypeId) (h : 0 ≤ a ∧ a ≤ 255) : Bys (w.alloc (.cells #[.int .u8 a] e)) (some ⟨w.heap.size, 0, none⟩) 1 [a] :=
  bys_new (ys := [a]) (fun x hx => by simp at hx; subst hx; exact h) rfl
theorem bys_new2 (w : World) {a b : Int} (e : TypeId) (h : 0 ≤ a ∧ a ≤ 255) (k : 0 ≤ b ∧ b ≤ 255) : Bys (w.alloc (.cells #[.int .u8 a, .int .u8 b] e)) (some ⟨w.heap.size, 0, none⟩) 2 [a, b] :=
  bys_new (ys := [a, b]) (fun x hx => by simp at hx; rcases hx with rfl | rfl <;> assumption) rfl
/-- Behind an append of new bytes to a row of the call's own. -/
theorem own_next {w wr w' : World} {v v' : Value} {xs ys zs : List Int} {n : Nat} {c : Array Value} {e : TypeId} (hb : Below w.heap.size w wr) (hown : wr.ownsRow w.heap.size 5 1 v xs.length (vals xs)) (hz : zs = xs ++ ys) (hn : n = xs.length + ys.length)
    (h : w'.ownsRow w.heap.size 5 1 v' n (vals xs ++ vals ys)) (hg : (wr.alloc (.cells c e)).grownBy w' v.ownBlock) :
    w'.ownsRow w.heap.size 5 1 v' zs.length (vals zs) ∧ Below w.heap.size w w' := by
  subst hz hn
  rw [← vals_append] at h
  rw [List.length_append]
  exact ⟨h, (hb.alloc hb.size _).grown hg (by have := hb.size; simp; omega) fun j hj => (hown.lt j hj).1⟩
end Go.Proofs.YtomoinohfoalnaaDoor.txc
