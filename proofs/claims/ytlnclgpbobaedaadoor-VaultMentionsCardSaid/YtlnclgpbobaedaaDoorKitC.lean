/- Slices of integers that read as a list of numbers: as TlvKit's words on bytes. Nothing here names the program. -/
import Derived.Test.YtlnclgpbobaedaaDoorKitB
import Derived.ProofKit
import Derived.OpenShut
namespace Go.Proofs.YtlnclgpbobaedaaDoor.tlvc
open Go.RowKit Go.ChangeShapes Go.WideShapes Go.ChangeAt
set_option linter.unusedVariables false

def ivals (xs : List Int) : List Value := xs.map (Value.int .i64)
theorem ivals_length (xs : List Int) : (ivals xs).length = xs.length := List.length_map ..
theorem ivals_append (xs ys : List Int) : ivals (xs ++ ys) = ivals xs ++ ivals ys := List.map_append ..
theorem ivals_one (xs : List Int) : ∀ u ∈ ivals xs, u.oneCell' = true := ints_oneCell .i64 xs
def Fit8 (xs : List Int) : Prop := ∀ x ∈ xs, -9223372036854775808 ≤ x ∧ x ≤ 9223372036854775807
theorem Fit8.getD {xs : List Int} (h : Fit8 xs) (j : Nat) : -9223372036854775808 ≤ xs.getD j 0 ∧ xs.getD j 0 ≤ 9223372036854775807 := by
  rcases Nat.lt_or_ge j xs.length with hj | hj
  · rw [List.getD_eq_getElem?_getD, List.getElem?_eq_getElem hj]; exact h _ (List.getElem_mem hj)
  · rw [List.getD_eq_getElem?_getD, List.getElem?_eq_none hj]; exact ⟨by decide, by decide⟩
theorem Fit8.app {xs ys : List Int} (h : Fit8 xs) (k : Fit8 ys) : Fit8 (xs ++ ys) := fun x hx => (List.mem_append.1 hx).elim (h x) (k x)
theorem Fit8.take {xs : List Int} (h : Fit8 xs) (k : Nat) : Fit8 (xs.take k) := fun x hx => h x (List.mem_of_mem_take hx)
theorem Fit8.drop {xs : List Int} (h : Fit8 xs) (k : Nat) : Fit8 (xs.drop k) := fun x hx => h x (List.mem_of_mem_drop hx)

/-- In the world w the slice at A, of n elements, reads as the integers xs. -/
def Ins (w : World) (A : Option Addr) (n : Nat) (xs : List Int) : Prop :=
  xs.length = n ∧ Fit8 xs ∧ (0 < n → ∃ b off, A = some ⟨b, off, none⟩ ∧ b < w.heap.size ∧ ∀ j, j < n → w.cell? ⟨b, off + j, none⟩ = some (.int .i64 (xs.getD j 0)))

section
variable {w w' : World} {A : Option Addr} {n : Nat} {xs : List Int}
theorem Ins.nil_ (w : World) (A : Option Addr) : Ins w A 0 [] := ⟨rfl, (fun _ h => absurd h (by simp)), fun h => absurd h (by omega)⟩
theorem Ins.len (h : Ins w A n xs) : xs.length = n := h.1
theorem Ins.fit (h : Ins w A n xs) : Fit8 xs := h.2.1
theorem Ins.keep (h : Ins w A n xs) (hs : w.heap.size ≤ w'.heap.size) (hk : ∀ p : Addr, p.block < w.heap.size → w'.cell? p = w.cell? p) : Ins w' A n xs :=
  ⟨h.1, h.2.1, fun hn => by
    obtain ⟨b, off, e, hb, hc⟩ := h.2.2 hn
    exact ⟨b, off, e, by omega, fun j hj => (hk _ hb).trans (hc j hj)⟩⟩
theorem Ins.below (h : Ins w A n xs) (hb : Below w.heap.size w w') : Ins w' A n xs := h.keep hb.size fun _ hp => hb.cell hp
theorem Ins.alloc (h : Ins w A n xs) (o : Obj) : Ins (w.alloc o) A n xs := h.below ((Below.refl _ _).alloc (Nat.le_refl _) o)
theorem Ins.drewN (h : Ins w A n xs) (q : Nat) : Ins (w.drewN q) A n xs := h
theorem Ins.own {base : Nat} {e : TypeId} {c : Nat} (h : w.ownsRow base e 1 (.slice A n c) n (ivals xs)) (hf : Fit8 xs) : Ins w A n xs := by
  have hl : xs.length = n := by have := h.1; rw [ivals_length] at this; omega
  refine ⟨hl, hf, fun hn => ?_⟩
  rcases h.2 with ⟨_, h0⟩ | ⟨g, cap, cur, hv, _, hg, _⟩
  · omega
  · have hA : A = some ⟨g, 0, none⟩ ∧ cap = c := by simp only [Value.slice.injEq, true_and] at hv; exact ⟨hv.1, hv.2.symm⟩
    obtain ⟨rfl, rfl⟩ := hA
    refine ⟨g, 0, rfl, (Array.getElem?_eq_some_iff.1 hg).1, fun j hj => ?_⟩
    rw [Nat.zero_add, h.cellAt j (by omega)]
    simp [ivals, List.getD_eq_getElem?_getD, List.getElem?_eq_getElem (show j < xs.length by omega)]
theorem Ins.cut (h : Ins w A n xs) {k cap : Nat} (hk : k ≤ n) (hc : n ≤ cap) : Ins w (if cap = k then A else A.map (·.add k)) (n - k) (xs.drop k) := by
  refine ⟨by rw [List.length_drop, h.1], h.2.1.drop k, fun hn => ?_⟩
  obtain ⟨b, off, rfl, hb, hcell⟩ := h.2.2 (by omega)
  rw [if_neg (by omega)]
  refine ⟨b, off + k, by simp [Addr.add_lit], hb, fun j hj => ?_⟩
  rw [Nat.add_assoc, hcell (k + j) (by omega)]
  simp [List.getD_eq_getElem?_getD, List.getElem?_drop]
end

section
variable {P : Program} (w : World)
theorem run_iapp_nil (base : Nat) (t ty e : TypeId) (i : TypeInfo) (ht : P.underlying t = some (.slice e)) (hi : P.info? e = some i)
    (v : Value) (n : Nat) (xs : List Value) (hown : w.ownsRow base e 1 v n xs) (c : Nat) : (Builtin.append_ #[t, t] ty #[v, .slice none 0 c]).run P w = .ok v w :=
  run_app_nil w base t ty e i ht hi v n xs hown c
/-- append of integers to a row of the call's own, as a run. -/
theorem run_iapp (base : Nat) (t ty e : TypeId) (i : TypeInfo) (z : Value) (ht : P.underlying t = some (.slice e)) (hi : P.info? e = some i) (hz : i.zero = some z)
    (hsize : i.size = 1) (hby : i.bytes = 8) (hzs : z.cells.size = 1)
    (v : Value) (n : Nat) (xs : List Value) (hown : w.ownsRow base e 1 v n xs)
    (A : Option Addr) (m c : Nat) (ys : List Int) (hb : Ins w A m ys) (hbnd : n + m ≤ 17592186044416) (hbase : base ≤ w.heap.size) :
    ∃ v' w', (Builtin.append_ #[t, t] ty #[v, .slice A m c]).run P w = .ok v' w' ∧ w'.ownsRow base e 1 v' (n + m) (xs ++ ivals ys) ∧ w.grownBy w' v.ownBlock ∧ (v' = .slice none 0 0 ↔ v = .slice none 0 0 ∧ m = 0) := by
  have hmax : n + m ≤ maxLen := by unfold maxLen; omega
  rcases A with _ | ad
  · have hm : m = 0 := by
      rcases Nat.eq_zero_or_pos m with h0 | h0
      · exact h0
      · obtain ⟨b, off, h, _⟩ := hb.2.2 h0
        cases h
    subst hm
    have hn : ys = [] := List.eq_nil_of_length_eq_zero hb.1
    subst hn
    exact ⟨v, w, run_app_nil w base t ty e i ht hi v n xs hown c, by simpa [ivals] using hown, World.grownBy.refl w _, by simp⟩
  · have hcells : ∀ j u, (ivals ys)[j]? = some u → w.cell? (ad.add j) = some u := by
      intro j u hu
      have hj : j < ys.length := by
        have := (List.getElem?_eq_some_iff.1 hu).1
        rwa [ivals_length] at this
      obtain ⟨b, off, h, _, hc⟩ := hb.2.2 (by have := hb.1; omega)
      cases h
      rw [Addr.add_lit, hc j (by have := hb.1; omega), ← hu]
      simp [ivals, List.getD_eq_getElem?_getD, List.getElem?_eq_getElem hj]
    obtain ⟨v', w', h1, h2, h3, h4⟩ := _root_.Go.run_append_own (P := P) w base t ty e i z 1 8 ht hi hz hsize hby hzs (by decide) v n xs hown ad m c (ivals ys) (by rw [ivals_length, hb.1]; omega) hcells (ivals_one ys) hmax (by omega) hbase
    exact ⟨v', w', h1, h2, h3, h4⟩
/-- The same, as the walk takes it. -/
theorem wpl_iapp {w : World} {ops : Array Oper} {rest : List Oper} {o : Oper} {a : Act} {Q : Exit → Act → World → Prop} (hgd : o.guard = none) (s x : Operand) (t : TypeId)
    (ho : o.op = .call { callee := .builtin .append, args := #[s, x], argTypes := #[t, t] })
    (base : Nat) (e : TypeId) (i : TypeInfo) (z : Value) (ht : P.underlying t = some (.slice e)) (hi : P.info? e = some i) (hz : i.zero = some z)
    (hsize : i.size = 1) (hby : i.bytes = 8) (hzs : z.cells.size = 1)
    (v : Value) (n : Nat) (xs : List Value) (hs : a.eval s = v) (hown : w.ownsRow base e 1 v n xs)
    (A : Option Addr) (m c : Nat) (ys : List Int) (hx : a.eval x = .slice A m c) (hb : Ins w A m ys) (hbnd : n + m ≤ 17592186044416) (hbase : base ≤ w.heap.size)
    (h : ∀ v' w', w'.ownsRow base e 1 v' (n + m) (xs ++ ivals ys) → w.grownBy w' v.ownBlock → (v' = .slice none 0 0 ↔ v = .slice none 0 0 ∧ m = 0) → wpList P ops Q rest (a.put o.dst v') w') : wpList P ops Q (o :: rest) a w := by
  refine wpList_plain hgd fun K hK => ?_
  obtain ⟨v', w', hrun, h2, h3, h4⟩ := run_iapp (P := P) w base t o.type e i z ht hi hz hsize hby hzs v n xs hown A m c ys hb hbnd hbase
  unfold Oper.wp
  simp [execOp, ho, resolve, invoke, builtin, hs, hx, hrun, Result.andThen]
  exact hK _ _ (h v' w' h2 h3 h4)
end

section
variable {H : Type} {enc : TypeId × Value → H} {P : Program} {W : World} {held : Bool}
theorem fit8_of_wf {zs : List Int} (h : ∀ n ∈ zs, (Lit.int .i64 n).wf = true) : Fit8 zs := fun n hn => by
  have := bounds_i64 (h n hn)
  omega
theorem ins_of_cells {A : Option Addr} {len cap : Nat} {zs : List Int} (hl : len ≤ cap) (hz : zs.length = cap) (hf : Fit8 zs) (hA : A = none → cap = 0) (hc : ∀ a, A = some a → ∀ i, i < cap → W.cell? (a.add i) = some (.int .i64 (zs.getD i 0))) : Ins W A len (zs.take len) := by
  refine ⟨by rw [List.length_take]; omega, hf.take len, fun hn => ?_⟩
  rcases A with _ | ⟨b, off, spot⟩
  · have := hA rfl; omega
  · have hc := hc _ rfl
    have h0 := hc 0 (by omega)
    have hspot : spot = none := by simpa [Addr.add] using World.cell?_spot h0
    subst hspot
    refine ⟨b, off, rfl, ?_, fun j hj => ?_⟩
    · have := World.block_lt_of_cell? W _ h0
      simpa [Addr.add] using this
    · have := hc j (by omega)
      rw [Addr.add_lit] at this
      rw [this]
      simp [List.getD_eq_getElem?_getD, hj]
end
end Go.Proofs.YtlnclgpbobaedaaDoor.tlvc
