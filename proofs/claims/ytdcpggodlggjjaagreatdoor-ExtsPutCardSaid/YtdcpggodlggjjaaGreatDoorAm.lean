/- The program's closures that read what each of the five known -/
import Derived.Test.YtdcpggodlggjjaaGreatDoorAk
import Derived.Test.YtdcpggodlggjjaaGreatDoorIf
set_option linter.unusedVariables false
set_option linter.unusedSimpArgs false
namespace Go.Proofs.YtdcpggodlggjjaaGreatDoor.nmc
open Go.RowKit tlvc tlvd ndc txc txm intc intm
structure KB (p : Nat) (w w' : World) : Prop where
 bel : Below p w w'
 kept : ∀ g, g < w.heap.size → g ≠ p → w'.heap[g]? = w.heap[g]?
theorem KB.of {p : Nat} {w w' : World} (hp : p ≤ w.heap.size) (h : Below w.heap.size w w') : KB p w w' := ⟨h.mono hp, fun g hg _ => h.block g hg⟩
theorem KB.set {p : Nat} {w w' : World} (h : KB p w w') (i : Nat) (v : Value) : KB p w (w'.setCell ⟨p, i, none⟩ v) :=
 ⟨h.bel.setCell (show p ≤ (⟨p, i, none⟩ : Addr).block from lr_ _) v, fun g hg hne => by rw [set_heap_other _ _ _ _ _ hne]; exact h.kept g hg hne⟩
theorem KB.then {p : Nat} {w w1 w2 : World} (h : KB p w w1) (k : KB p w1 w2) : KB p w w2 :=
 ⟨h.bel.trans k.bel, fun g hg hne => (k.kept g (Nat.lt_of_lt_of_le hg h.bel.size) hne).trans (h.kept g hg hne)⟩
theorem KB.below {p : Nat} {w w1 w2 : World} (hp : p ≤ w.heap.size) (h : KB p w w1) (k : Below w1.heap.size w1 w2) : KB p w w2 := h.then (KB.of (Nat.le_trans hp h.bel.size) k)
theorem KB.cell {p : Nat} {w w' : World} (h : KB p w w') {a : Addr} {v : Value} (ha : w.cell? a = some v) (hne : a.block ≠ p) : w'.cell? a = some v := by
 have := World.block_lt_of_cell? w a ha
 exact (World.cell?_of_block (h.kept _ this hne)).trans ha
theorem ExC.set {p : Nat} {w : World} {x : Ex} {c0 c1 c2 c3 c4 c5 c6 c7 c8 : Value} (h : ExC (fun g => p < g) w x c0 c1 c2 c3 c4 c5 c6 c7 c8) (i : Nat) (v : Value) : ExC (fun g => p < g) (w.setCell ⟨p, i, none⟩ v) x c0 c1 c2 c3 c4 c5 c6 c7 c8 :=
 h.on (by rw [set_size]; exact lr_ _) (fun g hg _ => set_heap_other _ _ _ _ _ (Nat.ne_of_gt hg)) (fun g hg _ => hg)
theorem LsC.set {α : Type} {E : El α} {p : Nat} {w : World} {xs : List α} {c0 : Value} (h : LsC E (fun g => p < g) w xs c0) (i : Nat) (v : Value) : LsC E (fun g => p < g) (w.setCell ⟨p, i, none⟩ v) xs c0 :=
 h.on (by rw [set_size]; exact lr_ _) (fun g hg _ => set_heap_other _ _ _ _ _ (Nat.ne_of_gt hg)) (fun g hg _ => hg)
theorem XB.put0 {w : World} {q p : Nat} {x : Ex} {c0 c1 c2 c3 c4 c5 c6 c7 c8 v : Value} (hqp : q ≠ p) (h : XB (fun g => p < g) w q p x c0 c1 c2 c3 c4 c5 c6 c7 c8) {b : Bool} (hv : v = .bool b) : XB (fun g => p < g) (w.setCell ⟨p, 0, none⟩ v) q p { x with hasCA := b } v c1 c2 c3 c4 c5 c6 c7 c8 :=
 ⟨by rw [set_heap_other _ _ _ _ _ hqp]; exact h.q, set_heap _ _ 0 v _ _ _ h.p, hv, (h.x.set 0 v).ca, (h.x.set 0 v).path, (h.x.set 0 v).i64, (h.x.set 0 v).usage, (h.x.set 0 v).u16, (h.x.set 0 v).eku, (h.x.set 0 v).princs, (h.x.set 0 v).permit, (h.x.set 0 v).exclude, (h.x.set 0 v).odd⟩
theorem XB.put1 {w : World} {q p : Nat} {x : Ex} {c0 c1 c2 c3 c4 c5 c6 c7 c8 v : Value} (hqp : q ≠ p) (h : XB (fun g => p < g) w q p x c0 c1 c2 c3 c4 c5 c6 c7 c8) {b : Bool} (hv : v = .bool b) : XB (fun g => p < g) (w.setCell ⟨p, 1, none⟩ v) q p { x with ca := b } c0 v c2 c3 c4 c5 c6 c7 c8 :=
 ⟨by rw [set_heap_other _ _ _ _ _ hqp]; exact h.q, set_heap _ _ 1 v _ _ _ h.p, (h.x.set 1 v).has, hv, (h.x.set 1 v).path, (h.x.set 1 v).i64, (h.x.set 1 v).usage, (h.x.set 1 v).u16, (h.x.set 1 v).eku, (h.x.set 1 v).princs, (h.x.set 1 v).permit, (h.x.set 1 v).exclude, (h.x.set 1 v).odd⟩
theorem XB.put2 {w : World} {q p : Nat} {x : Ex} {c0 c1 c2 c3 c4 c5 c6 c7 c8 v : Value} (hqp : q ≠ p) (h : XB (fun g => p < g) w q p x c0 c1 c2 c3 c4 c5 c6 c7 c8) {b : Int} (hv : v = .int .i64 b) (hb : -9223372036854775808 ≤ b ∧ b ≤ 9223372036854775807) : XB (fun g => p < g) (w.setCell ⟨p, 2, none⟩ v) q p { x with path := b } c0 c1 v c3 c4 c5 c6 c7 c8 :=
 ⟨by rw [set_heap_other _ _ _ _ _ hqp]; exact h.q, set_heap _ _ 2 v _ _ _ h.p, (h.x.set 2 v).has, (h.x.set 2 v).ca, hv, hb, (h.x.set 2 v).usage, (h.x.set 2 v).u16, (h.x.set 2 v).eku, (h.x.set 2 v).princs, (h.x.set 2 v).permit, (h.x.set 2 v).exclude, (h.x.set 2 v).odd⟩
theorem XB.put8 {w : World} {q p : Nat} {x : Ex} {c0 c1 c2 c3 c4 c5 c6 c7 c8 v : Value} (hqp : q ≠ p) (h : XB (fun g => p < g) w q p x c0 c1 c2 c3 c4 c5 c6 c7 c8) {b : _} (hv : LsC odE (fun g => p < g) w b v) : XB (fun g => p < g) (w.setCell ⟨p, 8, none⟩ v) q p { x with odd := b } c0 c1 c2 c3 c4 c5 c6 c7 v :=
 ⟨by rw [set_heap_other _ _ _ _ _ hqp]; exact h.q, set_heap _ _ 8 v _ _ _ h.p, (h.x.set 8 v).has, (h.x.set 8 v).ca, (h.x.set 8 v).path, (h.x.set 8 v).i64, (h.x.set 8 v).usage, (h.x.set 8 v).u16, (h.x.set 8 v).eku, (h.x.set 8 v).princs, (h.x.set 8 v).permit, (h.x.set 8 v).exclude, hv.set 8 v⟩
def ReadPost (w : World) (q p : Nat) (x : Ex) (e : Ending) (w' : World) : Prop := e = .returned (.tuple #[]) ∧ KB p w w' ∧ ∃ c0 c1 c2 c3 c4 c5 c6 c7 c8, XB (fun g => p < g) w' q p x c0 c1 c2 c3 c4 c5 c6 c7 c8
end Go.Proofs.YtdcpggodlggjjaaGreatDoor.nmc
