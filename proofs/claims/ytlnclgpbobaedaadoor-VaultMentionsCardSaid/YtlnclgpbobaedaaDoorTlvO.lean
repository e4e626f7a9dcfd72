/- How an argument that is a slice of bytes, or a slice of such slices, is opened; what the form's reach and the second form's bound give of it. -/
import Derived.Test.YtlnclgpbobaedaaDoorRows
import Derived.Test.YtlnclgpbobaedaaDoorTlvKit
import Derived.ProofKit
import Derived.OpenShut
import Derived.ChangeOld
import Derived.SizedLaws
import Derived.Deep.Matrix
namespace Go.Proofs.YtlnclgpbobaedaaDoor.tlvc
open Go.ChangeShapes Go.WideShapes Go.ChangeAt Go.RowKit
set_option linter.unusedVariables false

variable {H : Type} {enc : TypeId × Value → H} {P : Program} {W : World} {held : Bool}

/-- The datum of a slice with so many places. -/
def Spots (d : DataW H) (cap : Nat) : Prop := (d = .nil ∧ cap = 0) ∨ ∃ es sp, d = .slice es sp ∧ es.length + sp.length = cap

theorem fit_of_wf {zs : List Int} (h : ∀ n ∈ zs, (Lit.int .u8 n).wf = true) : Fit zs := fun n hn => by
  have := bounds_u8 (h n hn)
  omega

theorem bys_of_cells {A : Option Addr} {len cap : Nat} {zs : List Int} (hl : len ≤ cap) (hz : zs.length = cap) (hf : Fit zs) (hA : A = none → cap = 0) (hc : ∀ a, A = some a → ∀ i, i < cap → W.cell? (a.add i) = some (.int .u8 (zs.getD i 0))) : Bys W A len (zs.take len) := by
  refine ⟨by rw [List.length_take]; omega, hf.take len, fun hn => ?_⟩
  rcases A with _ | ⟨b, off, spot⟩
  · have := hA rfl; omega
  · have hc := hc _ rfl
    have h0 := hc 0 (by omega)
    have hspot : spot = none := by simpa [Addr.add] using World.cell?_spot h0
    subst hspot
    refine ⟨b, off, rfl, ?_, fun j hj => ?_⟩
    · have := World.block_lt_of_cell? W _ h0
      simpa [Addr.add] using this
    · have := hc j (by omega)
      rw [Addr.add_lit] at this
      rw [this]
      simp [List.getD_eq_getElem?_getD, hj]

theorem open_bys {t e : TypeId} {A : Option Addr} {len cap : Nat} {d : DataW H} {p : List MemPlace} (ht : P.underlying t = some (.slice e)) (he : P.underlying e = some (.int .u8)) (hc : P.cellsOf e = 1)
    (h : DataW.Trod enc P W 0 (fun _ => true) held t (.slice A len cap) d p) : ∃ xs, Bys W A len xs ∧ len ≤ cap ∧ cap ≤ maxLen ∧ Spots d cap := by
  obtain ⟨fuel, hf⟩ := h
  rcases open_ints ht he hc hf with ⟨hcs, hx⟩ | ⟨x, l, c, zs, hcs, _, hl, hm, hz, hx, hcell, hwz⟩
  · simp [Value.cells] at hcs
    obtain ⟨rfl, rfl, rfl⟩ := hcs
    simp only [Prod.mk.injEq] at hx
    exact ⟨[], Bys.nil_ W _, Nat.le_refl _, Nat.zero_le _, .inl ⟨hx.1, rfl⟩⟩
  · simp [Value.cells] at hcs
    obtain ⟨rfl, rfl, rfl⟩ := hcs
    simp only [Prod.mk.injEq] at hx
    have hz' : zs.length = cap := by simpa using hz
    refine ⟨zs.take len, bys_of_cells hl hz' (fit_of_wf hwz) (fun h => by cases h) (fun a ha i hi => ?_), hl, hm, .inr ⟨_, _, hx.1, ?_⟩⟩
    · cases ha
      exact hcell i (by omega)
    · simp only [lits, List.length_map, List.length_take, List.length_drop]
      omega

/-- A slice of slices of bytes. -/
def Bss (w : World) (A : Option Addr) (n : Nat) (xss : List (List Int)) : Prop :=
  xss.length = n ∧ (0 < n → ∃ b off, A = some ⟨b, off, none⟩ ∧ b < w.heap.size ∧
    ∀ j, j < n → ∃ Aj nj cj, w.cell? ⟨b, off + j, none⟩ = some (.slice Aj nj cj) ∧ Bys w Aj nj (xss.getD j []) ∧ nj ≤ cj ∧ cj ≤ maxLen)

theorem Bss.below {w w' : World} {A : Option Addr} {n : Nat} {xss : List (List Int)} (h : Bss w A n xss) (hb : Below w.heap.size w w') : Bss w' A n xss :=
  ⟨h.1, fun hn => by
    obtain ⟨b, off, e, hlt, hc⟩ := h.2 hn
    refine ⟨b, off, e, Nat.lt_of_lt_of_le hlt hb.size, fun j hj => ?_⟩
    obtain ⟨Aj, nj, cj, h1, h2, h3, h4⟩ := hc j hj
    exact ⟨Aj, nj, cj, (hb.cell (p := ⟨b, off + j, none⟩) hlt).trans h1, h2.below hb, h3, h4⟩⟩

theorem open_bss {t e q : TypeId} {A : Option Addr} {len cap : Nat} {d : DataW H} {p : List MemPlace} (ht : P.underlying t = some (.slice e)) (he : P.underlying e = some (.slice q)) (hq : P.underlying q = some (.int .u8)) (ce : P.cellsOf e = 1) (cq : P.cellsOf q = 1)
    (h : DataW.Trod enc P W 0 (fun _ => true) held t (.slice A len cap) d p) : ∃ xss, Bss W A len xss ∧ len ≤ cap ∧ cap ≤ maxLen ∧ Spots d cap := by
  obtain ⟨fuel, hf⟩ := h
  rcases Go.Deep.open_int_rows ht he hq ce cq hf with ⟨hcs, hx⟩ | ⟨a, l, c, A', L, C, Z, hcs, _, hl, hm, hx, hr⟩
  · simp [Value.cells] at hcs
    obtain ⟨rfl, rfl, rfl⟩ := hcs
    simp only [Prod.mk.injEq] at hx
    exact ⟨[], ⟨rfl, fun h => absurd h (by omega)⟩, Nat.le_refl _, Nat.zero_le _, .inl ⟨hx.1, rfl⟩⟩
  · simp [Value.cells] at hcs
    obtain ⟨rfl, rfl, rfl⟩ := hcs
    simp only [Prod.mk.injEq] at hx
    refine ⟨(List.range len).map fun r => (Z r).take (L r), ⟨by simp, fun hn => ?_⟩, hl, hm, .inr ⟨_, _, hx.1, by simp; omega⟩⟩
    obtain ⟨b, off, spot⟩ := a
    have h0 := (hr 0 (by omega)).1
    have hspot : spot = none := by simpa [Addr.add] using World.cell?_spot h0
    subst hspot
    refine ⟨b, off, rfl, ?_, fun j hj => ?_⟩
    · have := World.block_lt_of_cell? W _ h0
      simpa [Addr.add] using this
    · obtain ⟨h1, h2, h3, h4, h5, h6, h7⟩ := hr j (by omega)
      rw [Addr.add_lit] at h1
      refine ⟨_, _, _, h1, ?_, h2, h3⟩
      have e : ((List.range len).map fun r => (Z r).take (L r)).getD j [] = (Z j).take (L j) := by simp [List.getD_eq_getElem?_getD, hj]
      rw [e]
      exact bys_of_cells h2 h4 (fit_of_wf h5) h6 fun a ha i hi => (h7 a ha).2 i hi

/-- The form's own reach. -/
theorem spots_reach {ts : List TypeId} {ds : List (DataW H)} (hsz : (DataW.weightsEach P ts ds).all (· ≤ reachBytes) = true) {j : Nat} {t e : TypeId} {d : DataW H} {cap : Nat} (hd : Spots d cap) (h1 : ts[j]? = some t) (h2 : ds[j]? = some d) (hu : P.underlying t = some (.slice e)) (hb : 1 ≤ P.bytesOf e) : cap ≤ 140737488351232 := by
  rcases hd with ⟨_, rfl⟩ | ⟨es, sp, rfl, rfl⟩
  · omega
  · have := sized_slice hsz h1 h2 hu
    have h3 := Nat.le_trans (Nat.le_mul_of_pos_right (es.length + sp.length) hb) this
    simpa [reachBytes] using h3

theorem bulk_pos (d : DataW H) : 1 ≤ Rows.uptoBulk d := by
  cases d with
  | lit l => cases l <;> simp [Rows.uptoBulk]
  | _ => simp [Rows.uptoBulk]
theorem bulk_many (l : List (DataW H)) : l.length ≤ Rows.uptoBulkAll l := by
  induction l with
  | nil => simp
  | cons x r ih => have := bulk_pos x; simp only [Rows.uptoBulkAll, List.length_cons]; omega
theorem bulk_in {l : List (DataW H)} {j : Nat} {d : DataW H} (h : l[j]? = some d) : Rows.uptoBulk d ≤ Rows.uptoBulkAll l := by
  induction l generalizing j with
  | nil => simp at h
  | cons x r ih =>
    simp only [Rows.uptoBulkAll]
    cases j with
    | zero => simp at h; subst h; omega
    | succ j => have := ih (by simpa using h); omega
/-- The second form's bound. -/
theorem spots_small {ds : List (DataW H)} (hk : Rows.uptoSmall H ds = true) {j : Nat} {d : DataW H} {cap : Nat} (hd : Spots d cap) (h2 : ds[j]? = some d) : cap ≤ 1048576 := by
  have h1 : Rows.uptoBulkAll ds ≤ 1048576 := of_decide_eq_true hk
  have h3 := bulk_in h2
  rcases hd with ⟨_, rfl⟩ | ⟨es, sp, rfl, rfl⟩
  · omega
  · have h4 := bulk_many es
    have h5 := bulk_many sp
    simp only [Rows.uptoBulk] at h3
    omega
end Go.Proofs.YtlnclgpbobaedaaDoor.tlvc
