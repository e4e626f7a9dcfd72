/- How an argument that is a slice of bytes, or a slice of such slices, is opened; what the form's reach and the second form's bound give of it. How an argument that is a slice of integers is opened. How an argument that is a tree of nodes, or a slice of such, is opened. Nothing here names the program. -/
import Derived.Test.YtaafgohaikhekaaDoorRows
import Derived.Test.YtaafgohaikhekaaDoorKa
import Derived.ProofKit
import Derived.OpenShut
import Derived.ChangeOld
import Derived.SizedLaws
import Derived.Deep.Matrix
import Derived.Deep.Slices
import Derived.Deep.Fields
import Derived.ChangeArms
namespace Go.Proofs.YtaafgohaikhekaaDoor.tlvc
open Go.ChangeShapes Go.WideShapes Go.ChangeAt Go.RowKit
set_option linter.unusedVariables false

variable {H : Type} {enc : TypeId × Value → H} {P : Program} {W : World} {held : Bool}

/-- The datum of a slice with so many places. -/
def Spots (d : DataW H) (cap : Nat) : Prop := (d = .nil ∧ cap = 0) ∨ ∃ es sp, d = .slice es sp ∧ es.length + sp.length = cap

theorem fit_of_wf {zs : List Int} (h : ∀ n ∈ zs, (Lit.int .u8 n).wf = true) : Fit zs := fun n hn => by
  have := bounds_u8 (h n hn)
  omega

theorem bys_of_cells {A : Option Addr} {len cap : Nat} {zs : List Int} (hl : len ≤ cap) (hz : zs.length = cap) (hf : Fit zs) (hA : A = none → cap = 0) (hc : ∀ a, A = some a → ∀ i, i < cap → W.cell? (a.add i) = some (.int .u8 (zs.getD i 0))) : Bys W A len (zs.take len) := by
  refine ⟨by rw [List.length_take]; omega, hf.take len, fun hn => ?_⟩
  rcases A with _ | ⟨b, off, spot⟩
  · have := hA rfl; omega
  · have hc := hc _ rfl
    have h0 := hc 0 (by omega)
    have hspot : spot = none := by simpa [Addr.add] using World.cell?_spot h0
    subst hspot
    refine ⟨b, off, rfl, ?_, fun j hj => ?_⟩
    · have := World.block_lt_of_cell? W _ h0
      simpa [Addr.add] using this
    · have := hc j (by omega)
      rw [Addr.add_lit] at this
      rw [this]
      simp [List.getD_eq_getElem?_getD, hj]

theorem open_bys {t e : TypeId} {A : Option Addr} {len cap : Nat} {d : DataW H} {p : List MemPlace} (ht : P.underlying t = some (.slice e)) (he : P.underlying e = some (.int .u8)) (hc : P.cellsOf e = 1)
    (h : DataW.Trod enc P W 0 (fun _ => true) held t (.slice A len cap) d p) : ∃ xs, Bys W A len xs ∧ len ≤ cap ∧ cap ≤ maxLen ∧ Spots d cap := by
  obtain ⟨fuel, hf⟩ := h
  rcases open_ints ht he hc hf with ⟨hcs, hx⟩ | ⟨x, l, c, zs, hcs, _, hl, hm, hz, hx, hcell, hwz⟩
  · simp [Value.cells] at hcs
    obtain ⟨rfl, rfl, rfl⟩ := hcs
    simp only [Prod.mk.injEq] at hx
    exact ⟨[], Bys.nil_ W _, Nat.le_refl _, Nat.zero_le _, .inl ⟨hx.1, rfl⟩⟩
  · simp [Value.cells] at hcs
    obtain ⟨rfl, rfl, rfl⟩ := hcs
    simp only [Prod.mk.injEq] at hx
    have hz' : zs.length = cap := by simpa using hz
    refine ⟨zs.take len, bys_of_cells hl hz' (fit_of_wf hwz) (fun h => by cases h) (fun a ha i hi => ?_), hl, hm, .inr ⟨_, _, hx.1, ?_⟩⟩
    · cases ha
      exact hcell i (by omega)
    · simp only [lits, List.length_map, List.length_take, List.length_drop]
      omega

/-- A slice of slices of bytes. -/
def Bss (w : World) (A : Option Addr) (n : Nat) (xss : List (List Int)) : Prop :=
  xss.length = n ∧ (0 < n → ∃ b off, A = some ⟨b, off, none⟩ ∧ b < w.heap.size ∧
    ∀ j, j < n → ∃ Aj nj cj, w.cell? ⟨b, off + j, none⟩ = some (.slice Aj nj cj) ∧ Bys w Aj nj (xss.getD j []) ∧ nj ≤ cj ∧ cj ≤ maxLen)

theorem Bss.below {w w' : World} {A : Option Addr} {n : Nat} {xss : List (List Int)} (h : Bss w A n xss) (hb : Below w.heap.size w w') : Bss w' A n xss :=
  ⟨h.1, fun hn => by
    obtain ⟨b, off, e, hlt, hc⟩ := h.2 hn
    refine ⟨b, off, e, Nat.lt_of_lt_of_le hlt hb.size, fun j hj => ?_⟩
    obtain ⟨Aj, nj, cj, h1, h2, h3, h4⟩ := hc j hj
    exact ⟨Aj, nj, cj, (hb.cell (p := ⟨b, off + j, none⟩) hlt).trans h1, h2.below hb, h3, h4⟩⟩

theorem open_bss {t e q : TypeId} {A : Option Addr} {len cap : Nat} {d : DataW H} {p : List MemPlace} (ht : P.underlying t = some (.slice e)) (he : P.underlying e = some (.slice q)) (hq : P.underlying q = some (.int .u8)) (ce : P.cellsOf e = 1) (cq : P.cellsOf q = 1)
    (h : DataW.Trod enc P W 0 (fun _ => true) held t (.slice A len cap) d p) : ∃ xss, Bss W A len xss ∧ len ≤ cap ∧ cap ≤ maxLen ∧ Spots d cap := by
  obtain ⟨fuel, hf⟩ := h
  rcases Go.Deep.open_int_rows ht he hq ce cq hf with ⟨hcs, hx⟩ | ⟨a, l, c, A', L, C, Z, hcs, _, hl, hm, hx, hr⟩
  · simp [Value.cells] at hcs
    obtain ⟨rfl, rfl, rfl⟩ := hcs
    simp only [Prod.mk.injEq] at hx
    exact ⟨[], ⟨rfl, fun h => absurd h (by omega)⟩, Nat.le_refl _, Nat.zero_le _, .inl ⟨hx.1, rfl⟩⟩
  · simp [Value.cells] at hcs
    obtain ⟨rfl, rfl, rfl⟩ := hcs
    simp only [Prod.mk.injEq] at hx
    refine ⟨(List.range len).map fun r => (Z r).take (L r), ⟨by simp, fun hn => ?_⟩, hl, hm, .inr ⟨_, _, hx.1, by simp; omega⟩⟩
    obtain ⟨b, off, spot⟩ := a
    have h0 := (hr 0 (by omega)).1
    have hspot : spot = none := by simpa [Addr.add] using World.cell?_spot h0
    subst hspot
    refine ⟨b, off, rfl, ?_, fun j hj => ?_⟩
    · have := World.block_lt_of_cell? W _ h0
      simpa [Addr.add] using this
    · obtain ⟨h1, h2, h3, h4, h5, h6, h7⟩ := hr j (by omega)
      rw [Addr.add_lit] at h1
      refine ⟨_, _, _, h1, ?_, h2, h3⟩
      have e : ((List.range len).map fun r => (Z r).take (L r)).getD j [] = (Z j).take (L j) := by simp [List.getD_eq_getElem?_getD, hj]
      rw [e]
      exact bys_of_cells h2 h4 (fit_of_wf h5) h6 fun a ha i hi => (h7 a ha).2 i hi

/-- The form's own reach. -/
theorem spots_reach {ts : List TypeId} {ds : List (DataW H)} (hsz : (DataW.weightsEach P ts ds).all (· ≤ reachBytes) = true) {j : Nat} {t e : TypeId} {d : DataW H} {cap : Nat} (hd : Spots d cap) (h1 : ts[j]? = some t) (h2 : ds[j]? = some d) (hu : P.underlying t = some (.slice e)) (hb : 1 ≤ P.bytesOf e) : cap ≤ 140737488351232 := by
  rcases hd with ⟨_, rfl⟩ | ⟨es, sp, rfl, rfl⟩
  · omega
  · have := sized_slice hsz h1 h2 hu
    have h3 := Nat.le_trans (Nat.le_mul_of_pos_right (es.length + sp.length) hb) this
    simpa [reachBytes] using h3

theorem bulk_pos (d : DataW H) : 1 ≤ Rows.uptoBulk d := by
  cases d with
  | lit l => cases l <;> simp [Rows.uptoBulk]
  | _ => simp [Rows.uptoBulk]
theorem bulk_many (l : List (DataW H)) : l.length ≤ Rows.uptoBulkAll l := by
  induction l with
  | nil => simp
  | cons x r ih => have := bulk_pos x; simp only [Rows.uptoBulkAll, List.length_cons]; omega
theorem bulk_in {l : List (DataW H)} {j : Nat} {d : DataW H} (h : l[j]? = some d) : Rows.uptoBulk d ≤ Rows.uptoBulkAll l := by
  induction l generalizing j with
  | nil => simp at h
  | cons x r ih =>
    simp only [Rows.uptoBulkAll]
    cases j with
    | zero => simp at h; subst h; omega
    | succ j => have := ih (by simpa using h); omega
/-- The second form's bound. -/
theorem spots_small {ds : List (DataW H)} (hk : Rows.uptoSmall H ds = true) {j : Nat} {d : DataW H} {cap : Nat} (hd : Spots d cap) (h2 : ds[j]? = some d) : cap ≤ 1048576 := by
  have h1 : Rows.uptoBulkAll ds ≤ 1048576 := of_decide_eq_true hk
  have h3 := bulk_in h2
  rcases hd with ⟨_, rfl⟩ | ⟨es, sp, rfl, rfl⟩
  · omega
  · have h4 := bulk_many es
    have h5 := bulk_many sp
    simp only [Rows.uptoBulk] at h3
    omega
end Go.Proofs.YtaafgohaikhekaaDoor.tlvc
namespace Go.Proofs.YtaafgohaikhekaaDoor.tlvc
open Go.ChangeShapes Go.WideShapes Go.ChangeAt Go.RowKit
set_option linter.unusedVariables false
variable {H : Type} {enc : TypeId × Value → H} {P : Program} {W : World} {held : Bool}

theorem open_ins {t e : TypeId} {A : Option Addr} {len cap : Nat} {d : DataW H} {p : List MemPlace} (ht : P.underlying t = some (.slice e)) (he : P.underlying e = some (.int .i64)) (hc : P.cellsOf e = 1)
    (h : DataW.Trod enc P W 0 (fun _ => true) held t (.slice A len cap) d p) : ∃ xs, Ins W A len xs ∧ len ≤ cap ∧ cap ≤ maxLen ∧ Spots d cap := by
  obtain ⟨fuel, hf⟩ := h
  rcases open_ints ht he hc hf with ⟨hcs, hx⟩ | ⟨x, l, c, zs, hcs, _, hl, hm, hz, hx, hcell, hwz⟩
  · simp [Value.cells] at hcs
    obtain ⟨rfl, rfl, rfl⟩ := hcs
    simp only [Prod.mk.injEq] at hx
    exact ⟨[], Ins.nil_ W _, Nat.le_refl _, Nat.zero_le _, .inl ⟨hx.1, rfl⟩⟩
  · simp [Value.cells] at hcs
    obtain ⟨rfl, rfl, rfl⟩ := hcs
    simp only [Prod.mk.injEq] at hx
    have hz' : zs.length = cap := by simpa using hz
    refine ⟨zs.take len, ins_of_cells hl hz' (fit8_of_wf hwz) (fun h => by cases h) (fun a ha i hi => ?_), hl, hm, .inr ⟨_, _, hx.1, ?_⟩⟩
    · cases ha
      exact hcell i (by omega)
    · simp only [lits, List.length_map, List.length_take, List.length_drop]
      omega
/-- The form's own reach, of elements of eight bytes. -/
theorem spots_reach8 {ts : List TypeId} {ds : List (DataW H)} (hsz : (DataW.weightsEach P ts ds).all (· ≤ reachBytes) = true) {j : Nat} {t e : TypeId} {d : DataW H} {cap : Nat} (hd : Spots d cap) (h1 : ts[j]? = some t) (h2 : ds[j]? = some d) (hu : P.underlying t = some (.slice e)) (hb : 8 ≤ P.bytesOf e) : cap ≤ 17592186043904 := by
  rcases hd with ⟨_, rfl⟩ | ⟨es, sp, rfl, rfl⟩
  · omega
  · have h3 := sized_slice hsz h1 h2 hu
    have h4 := Nat.le_trans (Nat.mul_le_mul_left (es.length + sp.length) hb) h3
    simp [reachBytes] at h4
    omega
end Go.Proofs.YtaafgohaikhekaaDoor.tlvc
namespace Go.Proofs.YtaafgohaikhekaaDoor.ndc
open Go.ChangeShapes Go.WideShapes Go.ChangeAt Go.RowKit Go.Proofs.YtaafgohaikhekaaDoor.tlvc
set_option linter.unusedVariables false
instance : Inhabited Nd := ⟨.mk 0 [] []⟩
section
variable {H : Type} {enc : TypeId × Value → H} {P : Program} {W : World} {held : Bool}
theorem three {cs : List Value} (h : cs.length = 3) : ∃ c0 c1 c2, cs = [c0, c1, c2] := by
  match cs, h with
  | [c0, c1, c2], _ => exact ⟨c0, c1, c2, rfl⟩
/-- What memory must have of a type of nodes. -/
structure NdT (P : Program) (T : TypeId) where
  U : TypeId
  f0 : Field
  f1 : Field
  f2 : Field
  hT : P.underlying T = some (.struct #[f0, f1, f2])
  hone : Go.Deep.oneCellFields P #[f0, f1, f2] = true
  hC : P.cellsOf T = 3
  e0 : P.underlying f0.type = some (.int .u8)
  e1 : P.underlying f1.type = some (.slice U)
  eU : P.underlying U = some (.int .u8)
  cU : P.cellsOf U = 1
  e2 : P.underlying f2.type = some (.slice T)
theorem kids_of {T : TypeId} (X : NdT P T) {fuel : Nat} (ih : ∀ m, m < fuel → ∀ cs x, DataW.trod enc P W 0 (fun _ => true) held m T cs = some x → ∃ n c0 c1 c2, cs = [c0, c1, c2] ∧ NdC (fun _ => True) W n c0 c1 c2)
    {S : TypeId} (hS : P.underlying S = some (.slice T)) {cs : List Value} {x : DataW H × List MemPlace} (h : DataW.trod enc P W 0 (fun _ => true) held fuel S cs = some x) :
    ∃ K ck, ∃ ks : List Nd, cs = [.slice K ks.length ck] ∧ ks.length ≤ ck ∧ ck ≤ maxLen ∧ (0 < ks.length → ∃ g off, K = some ⟨g, off, none⟩ ∧ g < W.heap.size ∧ KidsC (fun _ => True) W g off ks) ∧ ((x.1 = .nil ∧ ck = 0) ∨ ∃ es sp, x.1 = .slice es sp ∧ es.length + sp.length = ck) := by
  rcases DataW.trod_slice hS h with ⟨rfl, rfl⟩ | ⟨a, len, cap, elems, rest, m, rfl, rfl, rfl, _, hl, hm, hlen, hel, hsp, _⟩
  · exact ⟨none, 0, [], rfl, Nat.le_refl _, Nat.zero_le _, fun h => absurd h (by simp), .inl ⟨rfl, rfl⟩⟩
  · obtain ⟨b, off, spot⟩ := a
    have each : ∀ i, i < len → ∃ n : Nd, ∃ c0 c1 c2, W.cells? 0 ((⟨b, off, spot⟩ : Addr).add (i * 3)) 3 = some [c0, c1, c2] ∧ NdC (fun _ => True) W n c0 c1 c2 := by
      intro i hi
      have hk := hel i hi
      rw [X.hC, List.getElem?_eq_getElem (by omega)] at hk
      obtain ⟨cs', h1, h2⟩ := Option.bind_eq_some_iff.1 hk
      obtain ⟨n, c0, c1, c2, rfl, hn⟩ := ih m (Nat.lt_succ_self m) _ _ h2
      exact ⟨n, c0, c1, c2, h1, hn⟩
    obtain ⟨f, hf⟩ := Go.Deep.choose_lt each
    refine ⟨some ⟨b, off, spot⟩, cap, (List.range len).map f, by simp, by simp; omega, hm, fun hn => ?_, .inr ⟨_, _, rfl, ?_⟩⟩
    · have hn : 0 < len := by simpa using hn
      obtain ⟨c0, c1, c2, hc, _⟩ := hf 0 hn
      have hcell := (World.cells?_some hc).2.2 0 (by omega)
      rw [Nat.zero_mul] at hcell
      have hspot : spot = none := by simpa [Addr.add] using World.cell?_spot (hcell.trans rfl)
      subst hspot
      have hlt : b < W.heap.size := by
        have := World.block_lt_of_cell? W _ (hcell.trans rfl)
        simpa [Addr.add] using this
      refine ⟨b, off, rfl, hlt, KidsC.of fun i hi => ?_⟩
      have hi : i < len := by simpa using hi
      obtain ⟨c0, c1, c2, hc, hnd⟩ := hf i hi
      have hcs := (World.cells?_some hc).2.2
      have q0 := hcs 0 (by omega)
      have q1 := hcs 1 (by omega)
      have q2 := hcs 2 (by omega)
      rw [Addr.add_lit, Addr.add_lit] at q0 q1 q2
      refine ⟨c0, c1, c2, q0, q1, q2, ?_⟩
      simpa using hnd
    · rw [List.length_map, List.length_map]
      have := (hsp rfl).1
      omega
theorem nd_of {T : TypeId} (X : NdT P T) : ∀ (fuel : Nat) (cs : List Value) (x : DataW H × List MemPlace), DataW.trod enc P W 0 (fun _ => true) held fuel T cs = some x → ∃ n c0 c1 c2, cs = [c0, c1, c2] ∧ NdC (fun _ => True) W n c0 c1 c2 := by
  intro fuel
  induction fuel using Nat.strongRecOn with
  | _ fuel ih =>
    intro cs x h
    obtain ⟨xs, m, rfl, _, hl, hlen, hf⟩ := DataW.trod_struct X.hT h
    rw [X.hC] at hl
    obtain ⟨c0, c1, c2, rfl⟩ := three hl
    obtain ⟨y0, y1, y2, rfl⟩ : ∃ y0 y1 y2, xs = [y0, y1, y2] := by
      match xs, hlen with
      | [y0, y1, y2], _ => exact ⟨y0, y1, y2, rfl⟩
    obtain ⟨o0, k0⟩ := Go.Deep.hone_of X.hone 0 X.f0 rfl
    obtain ⟨o1, k1⟩ := Go.Deep.hone_of X.hone 1 X.f1 rfl
    obtain ⟨o2, k2⟩ := Go.Deep.hone_of X.hone 2 X.f2 rfl
    have h0 := hf 0 X.f0 rfl
    have h1 := hf 1 X.f1 rfl
    have h2 := hf 2 X.f2 rfl
    rw [o0, k0] at h0
    rw [o1, k1] at h1
    rw [o2, k2] at h2
    simp only [List.drop_zero, List.take_succ_cons, List.take_zero, List.drop_succ_cons, List.getElem?_cons_zero, List.getElem?_cons_succ] at h0 h1 h2
    obtain ⟨t, e0, _, wt⟩ := DataW.trod_int X.e0 h0
    simp only [List.cons.injEq, and_true] at e0
    subst e0
    have hb : ∃ A la ca, c1 = .slice A la ca := by
      rcases DataW.trod_slice X.e1 h1 with ⟨e, _⟩ | ⟨a, len, cap, _, _, _, _, e, _⟩
      · exact ⟨none, 0, 0, by simpa using e⟩
      · exact ⟨some a, len, cap, by simpa using e⟩
    obtain ⟨A, la, ca, rfl⟩ := hb
    obtain ⟨b, hby, hb1, hb2, _⟩ := open_bys X.e1 X.eU X.cU ⟨m, h1⟩
    obtain ⟨K, ck, ks, e2, hk1, hk2, hk3, _⟩ := kids_of X (fun m' hm' => ih m' (Nat.lt_trans hm' (Nat.lt_succ_self m))) X.e2 h2
    simp only [List.cons.injEq, and_true] at e2
    subst e2
    refine ⟨.mk t b ks, _, _, _, rfl, ?_⟩
    unfold NdC
    refine ⟨rfl, bounds_u8 wt, ⟨A, la, ca, rfl, hb1, hb2, hby, fun _ _ _ _ _ => trivial⟩, K, ck, rfl, hk1, hk2, fun hn => ?_⟩
    obtain ⟨g, off, e, hg, hks⟩ := hk3 hn
    exact ⟨g, off, e, hg, trivial, hks⟩
theorem open_nd {T : TypeId} (X : NdT P T) {r : Reach} {b0 : Nat} {v : Value} {d : DataW H} {p : List MemPlace} (hv : Value.okWide P W r b0 T v) (h : DataW.Trod enc P W 0 (fun _ => true) held T v d p) :
    ∃ n c0 c1 c2, v = .agg #[c0, c1, c2] ∧ NdC (fun _ => True) W n c0 c1 c2 := by
  obtain ⟨cs, rfl, hsz⟩ := okWide_struct X.hT hv
  obtain ⟨fuel, hf⟩ := h
  obtain ⟨n, c0, c1, c2, e, hn⟩ := nd_of X fuel _ _ hf
  refine ⟨n, c0, c1, c2, ?_, hn⟩
  have e' : cs.toList = [c0, c1, c2] := e
  congr 1
  exact Array.ext' e'
/-- A slice of nodes. -/
def Nds (w : World) (A : Option Addr) (ks : List Nd) : Prop := 0 < ks.length → ∃ g off, A = some ⟨g, off, none⟩ ∧ g < w.heap.size ∧ KidsC (fun _ => True) w g off ks
theorem open_nds {T S : TypeId} (X : NdT P T) (hS : P.underlying S = some (.slice T)) {A : Option Addr} {len cap : Nat} {d : DataW H} {p : List MemPlace} (h : DataW.Trod enc P W 0 (fun _ => true) held S (.slice A len cap) d p) :
    ∃ ks, ks.length = len ∧ Nds W A ks ∧ len ≤ cap ∧ cap ≤ maxLen ∧ Spots d cap := by
  obtain ⟨fuel, hf⟩ := h
  obtain ⟨K, ck, ks, e, h1, h2, h3, h4⟩ := kids_of X (fun m _ cs x hx => nd_of X m cs x hx) hS hf
  have e : Value.slice A len cap = .slice K ks.length ck := by
    have e' : [Value.slice A len cap] = [.slice K ks.length ck] := e
    simpa using e'
  simp only [Value.slice.injEq] at e
  obtain ⟨rfl, rfl, rfl⟩ := e
  exact ⟨ks, rfl, h3, h1, h2, h4⟩
end
end Go.Proofs.YtaafgohaikhekaaDoor.ndc
