/- Plain words on memory that the proofs of this seat share: a slice of bytes that reads as a list of numbers; appending it to a row of the call's own; turning it into a string. Nothing here names the program. -/
import Derived.WalkKit
import Derived.Below
import Derived.Lib.Hide
import Derived.Laws.BytesArg
namespace Go.Proofs.YtlnclgpbobaedaaDoor.tlvc
open Go.RowKit

/-- The bytes of a list of numbers, as values. -/
def vals (xs : List Int) : List Value := xs.map (Value.int .u8)
theorem vals_length (xs : List Int) : (vals xs).length = xs.length := List.length_map ..
theorem vals_append (xs ys : List Int) : vals (xs ++ ys) = vals xs ++ vals ys := List.map_append ..
theorem vals_one (xs : List Int) : ∀ u ∈ vals xs, u.oneCell' = true := ints_oneCell .u8 xs

/-- Numbers that are bytes. -/
def Fit (xs : List Int) : Prop := ∀ x ∈ xs, 0 ≤ x ∧ x ≤ 255
theorem Fit.app {xs ys : List Int} (h : Fit xs) (k : Fit ys) : Fit (xs ++ ys) := fun x hx => (List.mem_append.1 hx).elim (h x) (k x)
theorem Fit.getD {xs : List Int} (h : Fit xs) (j : Nat) : 0 ≤ xs.getD j 0 ∧ xs.getD j 0 ≤ 255 := by
  rcases Nat.lt_or_ge j xs.length with hj | hj
  · rw [List.getD_eq_getElem?_getD, List.getElem?_eq_getElem hj]; exact h _ (List.getElem_mem hj)
  · rw [List.getD_eq_getElem?_getD, List.getElem?_eq_none hj]; exact ⟨Int.le_refl _, by decide⟩
theorem Fit.take {xs : List Int} (h : Fit xs) (k : Nat) : Fit (xs.take k) := fun x hx => h x (List.mem_of_mem_take hx)
theorem Fit.drop {xs : List Int} (h : Fit xs) (k : Nat) : Fit (xs.drop k) := fun x hx => h x (List.mem_of_mem_drop hx)

/-- In the world w the slice at A, of n elements, reads as the bytes xs. -/
def Bys (w : World) (A : Option Addr) (n : Nat) (xs : List Int) : Prop :=
  xs.length = n ∧ Fit xs ∧ (0 < n → ∃ b off, A = some ⟨b, off, none⟩ ∧ b < w.heap.size ∧ ∀ j, j < n → w.cell? ⟨b, off + j, none⟩ = some (.int .u8 (xs.getD j 0)))

section
variable {w w' : World} {A : Option Addr} {n : Nat} {xs : List Int}
theorem Bys.nil_ (w : World) (A : Option Addr) : Bys w A 0 [] := ⟨rfl, (fun _ h => absurd h (by simp)), fun h => absurd h (by omega)⟩
theorem Bys.len (h : Bys w A n xs) : xs.length = n := h.1
theorem Bys.fit (h : Bys w A n xs) : Fit xs := h.2.1
/-- What keeps every old cell keeps what reads. -/
theorem Bys.keep (h : Bys w A n xs) (hs : w.heap.size ≤ w'.heap.size) (hk : ∀ p : Addr, p.block < w.heap.size → w'.cell? p = w.cell? p) : Bys w' A n xs :=
  ⟨h.1, h.2.1, fun hn => by
    obtain ⟨b, off, e, hb, hc⟩ := h.2.2 hn
    exact ⟨b, off, e, by omega, fun j hj => (hk _ hb).trans (hc j hj)⟩⟩
theorem Bys.below (h : Bys w A n xs) (hb : Below w.heap.size w w') : Bys w' A n xs := h.keep hb.size fun _ hp => hb.cell hp
theorem Bys.alloc (h : Bys w A n xs) (o : Obj) : Bys (w.alloc o) A n xs := h.below ((Below.refl _ _).alloc (Nat.le_refl _) o)
theorem Bys.drew (h : Bys w A n xs) : Bys w.drew A n xs := h
/-- What a block's own size bounds: it holds at a world that has grown from one in which it lay below. -/
theorem Bys.belowAt {B : Nat} (h : Bys w A n xs) (hb : Below B w w') (hlt : ∀ b off, A = some ⟨b, off, none⟩ → b < B) : Bys w' A n xs :=
  ⟨h.1, h.2.1, fun hn => by
    obtain ⟨b, off, e, hb', hc⟩ := h.2.2 hn
    exact ⟨b, off, e, Nat.lt_of_lt_of_le hb' hb.size, fun j hj => (hb.cell (p := ⟨b, off + j, none⟩) (hlt b off e)).trans (hc j hj)⟩⟩
/-- What the call owns reads as it is. -/
theorem Bys.own {base : Nat} {e : TypeId} {c : Nat} (h : w.ownsRow base e 1 (.slice A n c) n (vals xs)) (hf : Fit xs) : Bys w A n xs := by
  have hl : xs.length = n := by have := h.1; rw [vals_length] at this; omega
  refine ⟨hl, hf, fun hn => ?_⟩
  rcases h.2 with ⟨_, h0⟩ | ⟨g, cap, cur, hv, _, hg, _⟩
  · omega
  · have hA : A = some ⟨g, 0, none⟩ ∧ cap = c := by simp only [Value.slice.injEq, true_and] at hv; exact ⟨hv.1, hv.2.symm⟩
    obtain ⟨rfl, rfl⟩ := hA
    refine ⟨g, 0, rfl, (Array.getElem?_eq_some_iff.1 hg).1, fun j hj => ?_⟩
    rw [Nat.zero_add, h.cellAt j (by omega)]
    simp [vals, List.getD_eq_getElem?_getD, List.getElem?_eq_getElem (show j < xs.length by omega)]
/-- A slice that came in. -/
theorem Bys.cut (h : Bys w A n xs) {k cap : Nat} (hk : k ≤ n) (hc : n ≤ cap) : Bys w (if cap = k then A else A.map (·.add k)) (n - k) (xs.drop k) := by
  refine ⟨by rw [List.length_drop, h.1], h.2.1.drop k, fun hn => ?_⟩
  obtain ⟨b, off, rfl, hb, hcell⟩ := h.2.2 (by omega)
  rw [if_neg (by omega)]
  refine ⟨b, off + k, by simp [Addr.add_lit], hb, fun j hj => ?_⟩
  rw [Nat.add_assoc, hcell (k + j) (by omega)]
  simp [List.getD_eq_getElem?_getD, List.getElem?_drop]
theorem Bys.upto (h : Bys w A n xs) {k : Nat} (hk : k ≤ n) : Bys w A k (xs.take k) := by
  refine ⟨by rw [List.length_take, h.1]; omega, h.2.1.take k, fun hn => ?_⟩
  obtain ⟨b, off, rfl, hb, hcell⟩ := h.2.2 (by omega)
  refine ⟨b, off, rfl, hb, fun j hj => ?_⟩
  rw [hcell j (by omega)]
  simp [List.getD_eq_getElem?_getD, hj]
end

section
variable {P : Program} (w : World)
theorem run_app_nil (base : Nat) (t ty e : TypeId) (i : TypeInfo) (ht : P.underlying t = some (.slice e)) (hi : P.info? e = some i)
    (v : Value) (n : Nat) (xs : List Value) (hown : w.ownsRow base e 1 v n xs) (c : Nat) : (Builtin.append_ #[t, t] ty #[v, .slice none 0 c]).run P w = .ok v w := by
  rcases hown.2 with ⟨rfl, rfl⟩ | ⟨g, cap, cur, rfl, _, _, hnc, _⟩
  · simp [Builtin.append_, run_underlying ht, sizeOf, typeInfo, hi, Builtin.lenOf, Builtin.firstCells]
  · simp [Builtin.append_, run_underlying ht, sizeOf, typeInfo, hi, Builtin.lenOf, Builtin.firstCells, hnc, storeCells]

/-- append of bytes to a row of the call's own, as a run. -/
theorem run_app (base : Nat) (t ty e : TypeId) (i : TypeInfo) (z : Value) (ht : P.underlying t = some (.slice e)) (hi : P.info? e = some i) (hz : i.zero = some z)
    (hsize : i.size = 1) (hby : i.bytes = 1) (hzs : z.cells.size = 1)
    (v : Value) (n : Nat) (xs : List Value) (hown : w.ownsRow base e 1 v n xs)
    (A : Option Addr) (m c : Nat) (ys : List Int) (hb : Bys w A m ys) (hbnd : n + m ≤ 140737488355328) (hbase : base ≤ w.heap.size) :
    ∃ v' w', (Builtin.append_ #[t, t] ty #[v, .slice A m c]).run P w = .ok v' w' ∧ w'.ownsRow base e 1 v' (n + m) (xs ++ vals ys) ∧ w.grownBy w' v.ownBlock := by
  have hmax : n + m ≤ maxLen := by unfold maxLen; omega
  rcases A with _ | ad
  · have hm : m = 0 := by
      rcases Nat.eq_zero_or_pos m with h0 | h0
      · exact h0
      · obtain ⟨b, off, h, _⟩ := hb.2.2 h0
        cases h
    subst hm
    have hn : ys = [] := List.eq_nil_of_length_eq_zero hb.1
    subst hn
    exact ⟨v, w, run_app_nil w base t ty e i ht hi v n xs hown c, by simpa [vals] using hown, World.grownBy.refl w _⟩
  · have hcells : ∀ j u, (vals ys)[j]? = some u → w.cell? (ad.add j) = some u := by
      intro j u hu
      have hj : j < ys.length := by
        have := (List.getElem?_eq_some_iff.1 hu).1
        rwa [vals_length] at this
      obtain ⟨b, off, h, _, hc⟩ := hb.2.2 (by have := hb.1; omega)
      cases h
      rw [Addr.add_lit, hc j (by have := hb.1; omega), ← hu]
      simp [vals, List.getD_eq_getElem?_getD, List.getElem?_eq_getElem hj]
    obtain ⟨v', w', h1, h2, h3, _⟩ := run_append_own (P := P) w base t ty e i z 1 1 ht hi hz hsize hby hzs (by decide) v n xs hown ad m c (vals ys) (by rw [vals_length, hb.1]; omega) hcells (vals_one ys) hmax (by omega) hbase
    exact ⟨v', w', h1, h2, h3⟩

/-- The same, as the walk takes it. -/
theorem wpl_app {w : World} {ops : Array Oper} {rest : List Oper} {o : Oper} {a : Act} {Q : Exit → Act → World → Prop} (hgd : o.guard = none) (s x : Operand) (t : TypeId)
    (ho : o.op = .call { callee := .builtin .append, args := #[s, x], argTypes := #[t, t] })
    (base : Nat) (e : TypeId) (i : TypeInfo) (z : Value) (ht : P.underlying t = some (.slice e)) (hi : P.info? e = some i) (hz : i.zero = some z)
    (hsize : i.size = 1) (hby : i.bytes = 1) (hzs : z.cells.size = 1)
    (v : Value) (n : Nat) (xs : List Value) (hs : a.eval s = v) (hown : w.ownsRow base e 1 v n xs)
    (A : Option Addr) (m c : Nat) (ys : List Int) (hx : a.eval x = .slice A m c) (hb : Bys w A m ys) (hbnd : n + m ≤ 140737488355328) (hbase : base ≤ w.heap.size)
    (h : ∀ v' w', w'.ownsRow base e 1 v' (n + m) (xs ++ vals ys) → w.grownBy w' v.ownBlock → wpList P ops Q rest (a.put o.dst v') w') : wpList P ops Q (o :: rest) a w := by
  refine wpList_plain hgd fun K hK => ?_
  obtain ⟨v', w', hrun, h2, h3⟩ := run_app (P := P) w base t o.type e i z ht hi hz hsize hby hzs v n xs hown A m c ys hb hbnd hbase
  unfold Oper.wp
  simp [execOp, ho, resolve, invoke, builtin, hs, hx, hrun, Result.andThen]
  exact hK _ _ (h v' w' h2 h3)

/-- string(b). -/
theorem run_str {w : World} (src e : TypeId) (hs : P.underlying src = some (.slice e)) (he : P.underlying e = some (.int .u8)) (A : Option Addr) (n c : Nat) (xs : List Int) (h : Bys w A n xs) :
    ∀ dst, P.underlying dst = some .string → (convert src dst (.slice A n c)).run P w = .ok (.string (strOfNums xs)) w := by
  intro dst hd
  rcases A with _ | ad
  · have hm : n = 0 := by
      rcases Nat.eq_zero_or_pos n with h0 | h0
      · exact h0
      · obtain ⟨b, off, h, _⟩ := h.2.2 h0
        cases h
    subst hm
    have hn : xs = [] := List.eq_nil_of_length_eq_zero h.1
    subst hn
    rw [run_convert_bytes_nil w src e hs he 0 c dst hd]
    rfl
  · by_cases h0 : 0 < n
    · obtain ⟨b, off, hA, _, hc⟩ := h.2.2 h0
      cases hA
      exact run_convert_bytes_arg w src e hs he b off n c xs h.1 hc dst hd
    · have hm : n = 0 := by omega
      subst hm
      have hn : xs = [] := List.eq_nil_of_length_eq_zero h.1
      subst hn
      rw [run_convert_bytes_string w src dst e _ 0 c hs he hd]
      exact run_bytesToString w ad 0 c [] (by simp [loadCells, loadCellsFrom, Sem.run_pure])
end
end Go.Proofs.YtlnclgpbobaedaaDoor.tlvc
