/- The live question of the law's package. What the laws' walks share: one box, and worlds above it. -/
import Derived.Test.YtlhogjigdmpokaaGreatDoorTf
import Derived.Test.YtlhogjigdmpokaaGreatDoorTd
import Derived.Test.YtlhogjigdmpokaaGreatDoorTe
import Derived.Lib.QuietBelow
import Derived.BigQuiet
import Derived.Deep.RegionHeld3
namespace Go.Proofs.YtlhogjigdmpokaaGreatDoor.tmc
open Go.RowKit Go.Proofs.YtlhogjigdmpokaaGreatDoor.tlvc
set_option linter.unusedVariables false
def atom1 : Tm := .mk 1 1 [] []
theorem atom_right : rightF atom1 0 = true := by unfold atom1; rw [right_mk]; exact ⟨by omega, by decide, by simp, List.Pairwise.nil⟩
theorem pow1_right : rightF (pow0 exp0 atom1) 0 = true := by
  rw [pow0_one, right_mk]
  refine ⟨by omega, by decide, fun k hk => ?_, by simp⟩
  rw [List.mem_singleton] at hk
  subst hk
  unfold atom1; rw [right_mk]; exact ⟨by omega, by decide, by simp, List.Pairwise.nil⟩
theorem pow1 : powF exp0 atom1 = some (pow0 exp0 atom1) := by
  unfold powF
  rw [if_pos ⟨exp0_right, atom_right, rfl⟩, if_pos pow1_right]
theorem ord1 : ordT atom1 (pow0 exp0 atom1) = -1 := by
  rw [pow0_one]
  unfold atom1 ordT
  simp [Tm.op, cmpI, or0]
theorem sz1 : szT (pow0 exp0 atom1) = 2 := by
  rw [pow0_sz]
  unfold exp0 atom1 szT szTs
  rfl
theorem tm_leaf (B : Nat → Prop) (w : World) (o m : Int) (ho : I64 o) (hm : I64 m) : TmC B w (.mk o m [] []) (.int .i64 o) (.int .i64 m) (.slice none 0 0) (.slice none 0 0) := by
  unfold TmC
  exact ⟨rfl, ho, rfl, hm, ⟨none, 0, 0, rfl, Nat.le_refl _, Nat.zero_le _, Bys.nil_ _ _, fun h => absurd h (by omega)⟩, none, 0, rfl, Nat.le_refl _, Nat.zero_le _, fun h => absurd h (by simp)⟩
end Go.Proofs.YtlhogjigdmpokaaGreatDoor.tmc
namespace Go.Proofs.YtlhogjigdmpokaaGreatDoor.tmc
open Go.RowKit Go.Proofs.YtlhogjigdmpokaaGreatDoor.tlvc
set_option linter.unusedVariables false
/-- A later world. -/
def Lat (W0 W : World) : Prop := Below W0.heap.size W0 W
theorem Lat.refl (W : World) : Lat W W := Below.refl _ _
theorem Lat.then_ {W0 W W' : World} (h : Lat W0 W) (k : Below W.heap.size W W') : Lat W0 W' := Below.trans h (k.mono (Below.size h))
theorem Lat.drew {W0 W : World} (h : Lat W0 W) : Lat W0 W.drew := Below.drew h
theorem Lat.below {w W0 W : World} (hw : Below w.heap.size w W0) (h : Lat W0 W) : Below w.heap.size w W := hw.trans (Below.mono h hw.size)
theorem Lat.tm {W0 W : World} (h : Lat W0 W) {B : Nat → Prop} {n : Tm} {c0 c1 c2 c3 : Value} (k : TmC B W0 n c0 c1 c2 c3) : TmC B W n c0 c1 c2 c3 := TmC.below h _ _ _ _ _ k
theorem Lat.re {W0 w : World} (h : Lat W0 w) (d : Nat) (os : Array Obj) : Lat W0 (Sort.grow (redrawn w d) os) := h.then_ (below_regrown w d os)
/-- The cells of a box. -/
theorem Lat.box {W0 W : World} (h : Lat W0 W) {g : Nat} {a b c d : Value} {T : TypeId} (hq : W0.heap[g]? = some (.cells #[a, b, c, d] T)) : W.cell? ⟨g, 0, none⟩ = some a ∧ W.cell? ⟨g, 1, none⟩ = some b ∧ W.cell? ⟨g, 2, none⟩ = some c ∧ W.cell? ⟨g, 3, none⟩ = some d :=
  box4 h hq (Array.getElem?_eq_some_iff.1 hq).1
theorem box_kid {wr W : World} (h : Lat wr W) {g i : Nat} {v : Value} (e : wr.cell? ⟨g, i, none⟩ = some v) : W.cell? ⟨g, i, none⟩ = some v := by
  rw [Below.cell h (p := ⟨g, i, none⟩) (block_lt_of_cell e)]; exact e
/-! ### Where the kids of a power's power come from -/
theorem put_lo {l : List Tm} {x : Tm} {i : Nat} (h : i < atF l x l.length) : (putF l x)[i]? = l[i]? := by
  unfold putF
  have := atF_le l x l.length
  rw [List.getElem?_append_left (by rw [List.length_take]; omega), List.getElem?_take, if_pos h]
theorem put_at (l : List Tm) (x : Tm) : (putF l x)[atF l x l.length]? = some x := by
  unfold putF
  have := atF_le l x l.length
  rw [List.getElem?_append_right (by rw [List.length_take]; omega), List.length_take, Nat.min_eq_left this, Nat.sub_self]
  rfl
theorem put_hi {l : List Tm} {x : Tm} {i : Nat} (h : atF l x l.length ≤ i) : (putF l x)[i + 1]? = l[i]? := by
  unfold putF
  have := atF_le l x l.length
  rw [List.getElem?_append_right (by rw [List.length_take]; omega), List.length_take, Nat.min_eq_left this, show i + 1 - atF l x l.length = (i - atF l x l.length) + 1 by omega, List.getElem?_cons_succ, List.getElem?_drop]
  congr 1
  omega
theorem put_ne {l : List Tm} (hl : l.Pairwise Le) {x k : Tm} (h : l[atF l x l.length]? = some k) : ordT x k ≠ 0 := by
  have h2 := (putF_ahead hl x).2 k (by
    obtain ⟨hi, e⟩ := List.getElem?_eq_some_iff.1 h
    rw [List.mem_iff_getElem]
    exact ⟨0, by rw [List.length_drop]; omega, by rw [List.getElem_drop]; simpa using e⟩)
  intro e
  rw [ordT_swap k x] at e
  omega
/-! ### A region of open order, one operation at a time -/
section
variable {P : Program} {ops : Array Oper} {Q : Exit → Act → World → Prop} {md : Region.Mode} {S : World → Prop}
theorem takeW (i : Nat) {n : Nat} (fuel : Nat) {oi : Oper} {listed : Array Bool} {a : Act} {w : World} (hn : n = fuel + 1) (hi : ops[i]? = some oi) (hs : Region.noSelect ops = true) (hf : Region.free md ops listed i = true) (hr : (Region.ready md ops listed).contains i = true)
    (hS : S w) (hw : Region.wanted oi (yielded ops a.tmps) = true) (v : Value)
    (h1 : ∀ w, S w → (execOp a.eval oi).run P w = .ok (.value v) w) (h2 : wpAnyH P md ops (NoPanic Q) S fuel (listed.setIfInBounds i true) (a.put oi.dst v) w) : wpAnyH P md ops (NoPanic Q) S n listed a w := by
  subst hn
  exact wpAnyH_take hi hs hf hr (fun c a w h => False.elim h) (Or.inl ⟨hw, h1⟩) hS h2
theorem takeU (i : Nat) {n : Nat} (fuel : Nat) {oi : Oper} {listed : Array Bool} {a : Act} {w : World} (hn : n = fuel + 1) (hi : ops[i]? = some oi) (hs : Region.noSelect ops = true) (hf : Region.free md ops listed i = true) (hr : (Region.ready md ops listed).contains i = true)
    (hS : S w) (hw : Region.wanted oi (yielded ops a.tmps) = false)
    (h : wpAnyH P md ops (NoPanic Q) S fuel (listed.setIfInBounds i true) (a.put oi.dst undef) w) : wpAnyH P md ops (NoPanic Q) S n listed a w := by
  subst hn
  exact wpAnyH_take hi hs hf hr (fun c a w h => False.elim h) (Or.inr ⟨hw, rfl⟩) hS h
theorem readyOne (i : Nat) {n : Nat} (fuel : Nat) {oi : Oper} {listed : Array Bool} {a : Act} {w : World} (hn : n = fuel + 1) (hi : ops[i]? = some oi) (hr : Region.ready md ops listed = [i]) (hw : Region.wanted oi (yielded ops a.tmps) = true)
    (h : ∀ K : Act → World → Prop, (∀ a w, S w → wpAnyH P md ops Q S fuel (listed.setIfInBounds i true) a w → K a w) → Oper.wp P oi a w K Q) : wpAnyH P md ops Q S n listed a w := by
  subst hn
  exact wpAnyH_ready hr (by simp) (AllReadyH.cons hi (fun K hK => by rw [if_pos hw]; exact h K (fun a w hS hW => hK a w hS (fun _ => hW))) AllReadyH.nil)
end
theorem order_same (n : Tm) (C1 C2 : Nat → Prop) (v u : Value) (w : World) (h : TmV C1 w n v) (k : TmV C2 w n u) : Calls Tryz.prog 70 #[v, u] w fun e w' => e = .returned (.int .i64 0) ∧ Below w.heap.size w w' := by
  have := order_any n n C1 C2 v u w h k
  rwa [ordT_refl] at this
theorem order_norm {n : Tm} (hn : normF n = n) {C1 C2 : Nat → Prop} (v u : Value) (w : World) (h : TmV C1 w (normF n) v) (k : TmV C2 w n u) : Calls Tryz.prog 70 #[v, u] w fun e w' => e = .returned (.int .i64 0) ∧ Below w.heap.size w w' := by
  rw [hn] at h
  exact order_same n C1 C2 v u w h k
/-- A term's kid, where it lies. -/
theorem kid_at {B : Nat → Prop} {w : World} {o m : Int} {d : List Int} {ks : List Tm} {c0 c1 c2 : Value} {K : Option Addr} {lk ck : Nat} (h : TmC B w (.mk o m d ks) c0 c1 c2 (.slice K lk ck)) :
    ks.length = lk ∧ lk ≤ ck ∧ ck ≤ 9223372036854775807 ∧ ∀ i, i < lk → ∃ k g off d0 d1 d2 d3, ks[i]? = some k ∧ K = some ⟨g, off, none⟩ ∧ w.cell? ⟨g, off + i * 4, none⟩ = some d0 ∧ w.cell? ⟨g, off + i * 4 + 1, none⟩ = some d1 ∧ w.cell? ⟨g, off + i * 4 + 2, none⟩ = some d2 ∧ w.cell? ⟨g, off + i * 4 + 3, none⟩ = some d3 ∧ TmC B w k d0 d1 d2 d3 := by
  unfold TmC at h
  obtain ⟨_, _, _, _, _, K', ck', e, h1, h2, h3⟩ := h
  cases e
  refine ⟨rfl, h1, by unfold maxLen at h2; omega, fun i hi => ?_⟩
  obtain ⟨g, off, rfl, hg, hB, hks⟩ := h3 (by omega)
  obtain ⟨d0, d1, d2, d3, e0, e1, e2, e3, hd⟩ := hks.at i hi
  exact ⟨ks[i], g, off, d0, d1, d2, d3, List.getElem?_eq_getElem hi, rfl, e0, e1, e2, e3, hd⟩
theorem szTs_take {ks : List Tm} {i : Nat} {k : Tm} (h : ks[i]? = some k) : szTs (ks.take (i + 1)) = szTs (ks.take i) + szT k := by
  obtain ⟨hi, rfl⟩ := List.getElem?_eq_some_iff.1 h
  rw [List.take_succ_eq_append_getElem hi, szTs_app]
  congr 1
theorem szT_mk (o m : Int) (d : List Int) (ks : List Tm) : szT (.mk o m d ks) = szTs ks + 1 := by conv => lhs; unfold szT
theorem szTs_take_le : ∀ (ks : List Tm) (i : Nat), szTs (ks.take i) ≤ szTs ks
  | [], i => by simp
  | k :: ks, 0 => by rw [List.take_zero, show szTs [] = 0 by unfold szTs; rfl]; omega
  | k :: ks, i + 1 => by
    have e : ∀ l, szTs (k :: l) = szT k + szTs l := fun l => by conv => lhs; unfold szTs
    rw [List.take_succ_cons, e, e]
    have := szTs_take_le ks i
    omega
end Go.Proofs.YtlhogjigdmpokaaGreatDoor.tmc
