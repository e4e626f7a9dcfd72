/- Words that the contracts of this layer share: bytes in new memory, string(b), bytes.Equal; blocks that are known whole. -/
import Derived.Test.YtomoinohfoalnaaDoorRows
import Derived.Test.YtomoinohfoalnaaDoorKitB
import Derived.WalkKit
import Derived.ProofKit
import Derived.WalkMore
import Derived.Outline
import Derived.WalkSpells
import Derived.Below
import Derived.Lib.Hide
import Derived.Lib.Bytes
import Derived.Lib.OthersKept
import Derived.IntWalk
namespace Go.Proofs.YtomoinohfoalnaaDoor.txc
open Go.RowKit Go.Proofs.YtomoinohfoalnaaDoor.tlvc
set_option linter.unusedVariables false

theorem ret_i64 {a b : Int} (h : a = b) : Ending.returned (.int .i64 a) = .returned (.int .i64 b) := by rw [h]
theorem heap_new (w : World) (o : Obj) : (w.alloc o).heap[w.heap.size]? = some o := by
  show (w.heap.push o)[w.heap.size]? = some o
  simp
theorem heap_old (w : World) (o : Obj) {k : Nat} (h : k < w.heap.size) : (w.alloc o).heap[k]? = w.heap[k]? := ((Below.refl _ w).alloc (Nat.le_refl _) o).block k h
/-- One call behind another. -/
theorem then_ {w a b : World} (h : Below w.heap.size w a) (k : Below a.heap.size a b) : Below w.heap.size w b := h.trans (k.mono h.size)
theorem below_drewN {w : World} : ∀ q, Below w.heap.size w (w.drewN q)
  | 0 => Below.refl _ _
  | q + 1 => (below_drewN q).drew
theorem below_dN {B : Nat} {a w : World} (h : Below B a w) : ∀ q, Below B a (w.drewN q)
  | 0 => h
  | q + 1 => (below_dN h q).drew

theorem bcell {W w1 : World} (hb : Below W.heap.size W w1) : (∀ b o, b < W.heap.size → w1.cell? ⟨b, o, none⟩ = W.cell? ⟨b, o, none⟩) ∧ (∀ b o, b < W.heap.size → w1.frozen? ⟨b, o, none⟩ = W.frozen? ⟨b, o, none⟩) :=
  ⟨fun b o h => hb.cell (p := ⟨b, o, none⟩) h, fun b o h => hb.frozen (p := ⟨b, o, none⟩) h⟩

/-- The bytes ys in new memory (or nil, if there are none). -/
def Here (B : Nat) (A : Option Addr) (c : Nat) (ys : List Int) (w' : World) : Prop :=
  Bys w' A ys.length ys ∧ ys.length ≤ c ∧ c ≤ maxLen ∧ (∀ b off, A = some ⟨b, off, none⟩ → B ≤ b ∧ off = 0)
def Made (w : World) (ys : List Int) (e : Ending) (w' : World) : Prop :=
  ∃ A c, e = .returned (.slice A ys.length c) ∧ Here w.heap.size A c ys w' ∧ Below w.heap.size w w'
theorem made_own {w w' : World} {v : Value} {n : Nat} {ys : List Int} (h : w'.ownsRow w.heap.size 5 1 v n (vals ys)) (hf : Fit ys) (hb : Below w.heap.size w w') : Made w ys (.returned v) w' := by
  have hn : ys.length = n := by have := h.1; rw [vals_length] at this; omega
  subst hn
  rcases h.2 with ⟨rfl, h0⟩ | ⟨g, cap, cur, rfl, hg, hh, hc, hm, _⟩
  · have e : ys = [] := List.eq_nil_of_length_eq_zero h0
    subst e
    exact ⟨none, 0, rfl, ⟨Bys.nil_ _ _, Nat.le_refl _, Nat.zero_le _, fun _ _ h => by cases h⟩, hb⟩
  · exact ⟨_, cap, rfl, ⟨Bys.own h hf, hc, hm, fun b off h => by cases h; exact ⟨hg, rfl⟩⟩, hb⟩
theorem Tryd.info5 : (Tryd.prog.info? 5).map (fun i => (i.zero, i.size, i.bytes)) = some (some (.int .u8 0), 1, 1) := by kernel_rfl

theorem str_now {w : World} {A : Option Addr} {n : Nat} {xs : List Int} (h : Bys w A n xs) (c : Nat) :
    (convert 22 9 (.slice A n c)).run Tryd.prog w = .ok (.string (strOfNums xs)) w :=
  run_str (P := Tryd.prog) 22 5 Tryd.underlying22 Tryd.underlying5 A n c xs h 9 Tryd.underlying9

/-- Are two rows of bytes alike, as the walk tells it. -/
def sameB (xs ys : List Int) : Bool := (strOfNums xs).toList == (strOfNums ys).toList
theorem fit_ext : ∀ {xs ys : List Int}, Fit xs → Fit ys → Lib.bytesOf xs = Lib.bytesOf ys → xs = ys
  | [], [], _, _, _ => rfl
  | [], _ :: _, _, _, h => by simp [Lib.bytesOf] at h
  | _ :: _, [], _, _, h => by simp [Lib.bytesOf] at h
  | x :: xs, y :: ys, hx, hy, h => by
    simp only [Lib.bytesOf, List.map_cons, List.cons.injEq] at h
    have h1 := hx x (by simp)
    have h2 := hy y (by simp)
    have e : x = y := by
      have := congrArg UInt8.toNat h.1
      simp only [UInt8.toNat_ofNat'] at this
      omega
    have e2 : xs = ys := fit_ext (fun z hz => hx z (by simp [hz])) (fun z hz => hy z (by simp [hz])) h.2
    rw [e, e2]
theorem sameB_iff {xs ys : List Int} (hx : Fit xs) (hy : Fit ys) : sameB xs ys = true ↔ xs = ys := by
  unfold sameB
  rw [Lib.strOfNums_toList, Lib.strOfNums_toList, beq_iff_eq]
  exact ⟨fit_ext hx hy, fun h => by rw [h]⟩
theorem sameB_no {xs ys : List Int} (hx : Fit xs) (hy : Fit ys) (h : xs ≠ ys) : sameB xs ys = false := by
  cases e : sameB xs ys
  · rfl
  · exact absurd ((sameB_iff hx hy).1 e) h
theorem equal_any (A B : Option Addr) (n c m d : Nat) (xs ys : List Int) (w : World) (hx : Bys w A n xs) (hy : Bys w B m ys) :
    Calls Tryd.prog 100 #[.slice A n c, .slice B m d] w fun e w' => e = .returned (.bool (sameB xs ys)) ∧ w = w' := by
  have h1 := str_now hx c
  have h2 := str_now hy d
  go_enter Tryd.func100, Tryd.ntmps100
  go_wp2
  go_ret
  exact ⟨rfl, rfl⟩
end Go.Proofs.YtomoinohfoalnaaDoor.txc
