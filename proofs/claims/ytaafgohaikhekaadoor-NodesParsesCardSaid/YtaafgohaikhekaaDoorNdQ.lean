/- Helpers for the statements' walks: a box that lies still; worlds one behind the other. -/
import Derived.Test.YtaafgohaikhekaaDoorNd
import Derived.Test.YtaafgohaikhekaaDoorNdP
import Derived.Test.YtaafgohaikhekaaDoorNdN
import Derived.Test.YtaafgohaikhekaaDoorNe
import Derived.Test.YtaafgohaikhekaaDoorKb
namespace Go.Proofs.YtaafgohaikhekaaDoor.ndc
open Go.RowKit Go.Proofs.YtaafgohaikhekaaDoor.tlvc Go.Proofs.YtaafgohaikhekaaDoor.tlvd Go.Proofs.YtaafgohaikhekaaDoor.txc
set_option linter.unusedVariables false
theorem box_cells {W0 W : World} {B g : Nat} {a b c : Value} {T : TypeId} (hB : Below B W0 W) (hq : W0.heap[g]? = some (.cells #[a, b, c] T)) (hg : g < B) :
    W.cell? ⟨g, 0, none⟩ = some a ∧ W.cell? ⟨g, 1, none⟩ = some b ∧ W.cell? ⟨g, 2, none⟩ = some c := by
  have h := (hB.block g hg).trans hq
  exact ⟨by rw [Lib.cell_of_heap h]; rfl, by rw [Lib.cell_of_heap h]; rfl, by rw [Lib.cell_of_heap h]; rfl⟩
theorem box_new (w : World) (a b c : Value) (T : TypeId) : (w.alloc (.cells #[a, b, c] T)).heap[w.heap.size]? = some (.cells #[a, b, c] T) := heap_new_ _ _
theorem below_new (w : World) (o : Obj) : Below w.heap.size w (w.alloc o) := (Below.refl _ _).alloc (Nat.le_refl _) _
theorem size_new (w : World) (o : Obj) : (w.alloc o).heap.size = w.heap.size + 1 := by simp
theorem below_then {B : Nat} {w w1 w2 : World} (h : Below B w w1) (k : Below w1.heap.size w1 w2) (hB : B ≤ w.heap.size) : Below B w w2 := h.trans (k.mono (Nat.le_trans hB h.size))
theorem fit_of_bys {w : World} {A : Option Addr} {n : Nat} {xs : List Int} (h : Bys w A n xs) : Fit xs := h.2.1
end Go.Proofs.YtaafgohaikhekaaDoor.ndc
