/- What the laws' walks share: one box, and worlds above it. -/
import Derived.Test.YtoaacacbjimloaaTmH
import Derived.Test.YtoaacacbjimloaaTmZ
import Derived.Lib.QuietBelow
import Derived.BigQuiet
namespace Go.Proofs.Ytoaacacbjimloaa.tmc
open Go.RowKit Go.Proofs.Ytoaacacbjimloaa.tlvc
set_option linter.unusedVariables false
/-- A later world. -/
def Lat (W0 W : World) : Prop := Below W0.heap.size W0 W
theorem Lat.refl (W : World) : Lat W W := Below.refl _ _
theorem Lat.then_ {W0 W W' : World} (h : Lat W0 W) (k : Below W.heap.size W W') : Lat W0 W' := Below.trans h (k.mono (Below.size h))
theorem Lat.drew {W0 W : World} (h : Lat W0 W) : Lat W0 W.drew := Below.drew h
theorem Lat.below {w W0 W : World} (hw : Below w.heap.size w W0) (h : Lat W0 W) : Below w.heap.size w W := hw.trans (Below.mono h hw.size)
theorem Lat.tm {W0 W : World} (h : Lat W0 W) {B : Nat → Prop} {n : Tm} {c0 c1 c2 c3 : Value} (k : TmC B W0 n c0 c1 c2 c3) : TmC B W n c0 c1 c2 c3 := TmC.below h _ _ _ _ _ k
theorem Lat.re {W0 w : World} (h : Lat W0 w) (d : Nat) (os : Array Obj) : Lat W0 (Sort.grow (redrawn w d) os) := h.then_ (below_regrown w d os)
/-- The cells of a box. -/
theorem Lat.box {W0 W : World} (h : Lat W0 W) {g : Nat} {a b c d : Value} {T : TypeId} (hq : W0.heap[g]? = some (.cells #[a, b, c, d] T)) : W.cell? ⟨g, 0, none⟩ = some a ∧ W.cell? ⟨g, 1, none⟩ = some b ∧ W.cell? ⟨g, 2, none⟩ = some c ∧ W.cell? ⟨g, 3, none⟩ = some d :=
  box4 h hq (Array.getElem?_eq_some_iff.1 hq).1
theorem sign_b (n : Int) (w : World) (h : Sg n) : Calls Try.prog 16 #[.int .i64 n] w fun e w' => e = .returned (.int .i64 n) ∧ Below w.heap.size w w' :=
  (sign_any n w h).mono fun e w' ⟨h1, h2⟩ => ⟨h1, by rw [← h2]; exact Below.refl _ _⟩
end Go.Proofs.Ytoaacacbjimloaa.tmc
