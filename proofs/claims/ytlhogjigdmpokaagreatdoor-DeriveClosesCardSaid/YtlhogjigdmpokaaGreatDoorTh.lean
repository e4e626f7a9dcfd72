/- How an argument that is a slice of bytes, or a slice of such slices, is opened; what the form's reach and the second form's bound give of it. How an argument that is a tree of terms is opened, and how much data it may have. Nothing here names the program. -/
import Derived.Test.YtlhogjigdmpokaaGreatDoorRows
import Derived.Test.YtlhogjigdmpokaaGreatDoorTa
import Derived.ProofKit
import Derived.OpenShut
import Derived.ChangeOld
import Derived.SizedLaws
import Derived.Deep.Matrix
import Derived.Test.YtlhogjigdmpokaaGreatDoorTc
import Derived.Deep.Slices
import Derived.Deep.Fields
import Derived.ChangeArms
namespace Go.Proofs.YtlhogjigdmpokaaGreatDoor.tlvc
open Go.ChangeShapes Go.WideShapes Go.ChangeAt Go.RowKit
set_option linter.unusedVariables false

variable {H : Type} {enc : TypeId × Value → H} {P : Program} {W : World} {held : Bool}

/-- The datum of a slice with so many places. -/
def Spots (d : DataW H) (cap : Nat) : Prop := (d = .nil ∧ cap = 0) ∨ ∃ es sp, d = .slice es sp ∧ es.length + sp.length = cap

theorem fit_of_wf {zs : List Int} (h : ∀ n ∈ zs, (Lit.int .u8 n).wf = true) : Fit zs := fun n hn => by
  have := bounds_u8 (h n hn)
  omega

theorem bys_of_cells {A : Option Addr} {len cap : Nat} {zs : List Int} (hl : len ≤ cap) (hz : zs.length = cap) (hf : Fit zs) (hA : A = none → cap = 0) (hc : ∀ a, A = some a → ∀ i, i < cap → W.cell? (a.add i) = some (.int .u8 (zs.getD i 0))) : Bys W A len (zs.take len) := by
  refine ⟨by rw [List.length_take]; omega, hf.take len, fun hn => ?_⟩
  rcases A with _ | ⟨b, off, spot⟩
  · have := hA rfl; omega
  · have hc := hc _ rfl
    have h0 := hc 0 (by omega)
    have hspot : spot = none := by simpa [Addr.add] using World.cell?_spot h0
    subst hspot
    refine ⟨b, off, rfl, ?_, fun j hj => ?_⟩
    · have := World.block_lt_of_cell? W _ h0
      simpa [Addr.add] using this
    · have := hc j (by omega)
      rw [Addr.add_lit] at this
      rw [this]
      simp [List.getD_eq_getElem?_getD, hj]

theorem open_bys {t e : TypeId} {A : Option Addr} {len cap : Nat} {d : DataW H} {p : List MemPlace} (ht : P.underlying t = some (.slice e)) (he : P.underlying e = some (.int .u8)) (hc : P.cellsOf e = 1)
    (h : DataW.Trod enc P W 0 (fun _ => true) held t (.slice A len cap) d p) : ∃ xs, Bys W A len xs ∧ len ≤ cap ∧ cap ≤ maxLen ∧ Spots d cap := by
  obtain ⟨fuel, hf⟩ := h
  rcases open_ints ht he hc hf with ⟨hcs, hx⟩ | ⟨x, l, c, zs, hcs, _, hl, hm, hz, hx, hcell, hwz⟩
  · simp [Value.cells] at hcs
    obtain ⟨rfl, rfl, rfl⟩ := hcs
    simp only [Prod.mk.injEq] at hx
    exact ⟨[], Bys.nil_ W _, Nat.le_refl _, Nat.zero_le _, .inl ⟨hx.1, rfl⟩⟩
  · simp [Value.cells] at hcs
    obtain ⟨rfl, rfl, rfl⟩ := hcs
    simp only [Prod.mk.injEq] at hx
    have hz' : zs.length = cap := by simpa using hz
    refine ⟨zs.take len, bys_of_cells hl hz' (fit_of_wf hwz) (fun h => by cases h) (fun a ha i hi => ?_), hl, hm, .inr ⟨_, _, hx.1, ?_⟩⟩
    · cases ha
      exact hcell i (by omega)
    · simp only [lits, List.length_map, List.length_take, List.length_drop]
      omega

/-- A slice of slices of bytes. -/
def Bss (w : World) (A : Option Addr) (n : Nat) (xss : List (List Int)) : Prop :=
  xss.length = n ∧ (0 < n → ∃ b off, A = some ⟨b, off, none⟩ ∧ b < w.heap.size ∧
    ∀ j, j < n → ∃ Aj nj cj, w.cell? ⟨b, off + j, none⟩ = some (.slice Aj nj cj) ∧ Bys w Aj nj (xss.getD j []) ∧ nj ≤ cj ∧ cj ≤ maxLen)

theorem Bss.below {w w' : World} {A : Option Addr} {n : Nat} {xss : List (List Int)} (h : Bss w A n xss) (hb : Below w.heap.size w w') : Bss w' A n xss :=
  ⟨h.1, fun hn => by
    obtain ⟨b, off, e, hlt, hc⟩ := h.2 hn
    refine ⟨b, off, e, Nat.lt_of_lt_of_le hlt hb.size, fun j hj => ?_⟩
    obtain ⟨Aj, nj, cj, h1, h2, h3, h4⟩ := hc j hj
    exact ⟨Aj, nj, cj, (hb.cell (p := ⟨b, off + j, none⟩) hlt).trans h1, h2.below hb, h3, h4⟩⟩

theorem open_bss {t e q : TypeId} {A : Option Addr} {len cap : Nat} {d : DataW H} {p : List MemPlace} (ht : P.underlying t = some (.slice e)) (he : P.underlying e = some (.slice q)) (hq : P.underlying q = some (.int .u8)) (ce : P.cellsOf e = 1) (cq : P.cellsOf q = 1)
    (h : DataW.Trod enc P W 0 (fun _ => true) held t (.slice A len cap) d p) : ∃ xss, Bss W A len xss ∧ len ≤ cap ∧ cap ≤ maxLen ∧ Spots d cap := by
  obtain ⟨fuel, hf⟩ := h
  rcases Go.Deep.open_int_rows ht he hq ce cq hf with ⟨hcs, hx⟩ | ⟨a, l, c, A', L, C, Z, hcs, _, hl, hm, hx, hr⟩
  · simp [Value.cells] at hcs
    obtain ⟨rfl, rfl, rfl⟩ := hcs
    simp only [Prod.mk.injEq] at hx
    exact ⟨[], ⟨rfl, fun h => absurd h (by omega)⟩, Nat.le_refl _, Nat.zero_le _, .inl ⟨hx.1, rfl⟩⟩
  · simp [Value.cells] at hcs
    obtain ⟨rfl, rfl, rfl⟩ := hcs
    simp only [Prod.mk.injEq] at hx
    refine ⟨(List.range len).map fun r => (Z r).take (L r), ⟨by simp, fun hn => ?_⟩, hl, hm, .inr ⟨_, _, hx.1, by simp; omega⟩⟩
    obtain ⟨b, off, spot⟩ := a
    have h0 := (hr 0 (by omega)).1
    have hspot : spot = none := by simpa [Addr.add] using World.cell?_spot h0
    subst hspot
    refine ⟨b, off, rfl, ?_, fun j hj => ?_⟩
    · have := World.block_lt_of_cell? W _ h0
      simpa [Addr.add] using this
    · obtain ⟨h1, h2, h3, h4, h5, h6, h7⟩ := hr j (by omega)
      rw [Addr.add_lit] at h1
      refine ⟨_, _, _, h1, ?_, h2, h3⟩
      have e : ((List.range len).map fun r => (Z r).take (L r)).getD j [] = (Z j).take (L j) := by simp [List.getD_eq_getElem?_getD, hj]
      rw [e]
      exact bys_of_cells h2 h4 (fit_of_wf h5) h6 fun a ha i hi => (h7 a ha).2 i hi

/-- The form's own reach. -/
theorem spots_reach {ts : List TypeId} {ds : List (DataW H)} (hsz : (DataW.weightsEach P ts ds).all (· ≤ reachBytes) = true) {j : Nat} {t e : TypeId} {d : DataW H} {cap : Nat} (hd : Spots d cap) (h1 : ts[j]? = some t) (h2 : ds[j]? = some d) (hu : P.underlying t = some (.slice e)) (hb : 1 ≤ P.bytesOf e) : cap ≤ 140737488351232 := by
  rcases hd with ⟨_, rfl⟩ | ⟨es, sp, rfl, rfl⟩
  · omega
  · have := sized_slice hsz h1 h2 hu
    have h3 := Nat.le_trans (Nat.le_mul_of_pos_right (es.length + sp.length) hb) this
    simpa [reachBytes] using h3

theorem bulk_pos (d : DataW H) : 1 ≤ Rows.uptoBulk d := by
  cases d with
  | lit l => cases l <;> simp [Rows.uptoBulk]
  | _ => simp [Rows.uptoBulk]
theorem bulk_many (l : List (DataW H)) : l.length ≤ Rows.uptoBulkAll l := by
  induction l with
  | nil => simp
  | cons x r ih => have := bulk_pos x; simp only [Rows.uptoBulkAll, List.length_cons]; omega
theorem bulk_in {l : List (DataW H)} {j : Nat} {d : DataW H} (h : l[j]? = some d) : Rows.uptoBulk d ≤ Rows.uptoBulkAll l := by
  induction l generalizing j with
  | nil => simp at h
  | cons x r ih =>
    simp only [Rows.uptoBulkAll]
    cases j with
    | zero => simp at h; subst h; omega
    | succ j => have := ih (by simpa using h); omega
/-- The second form's bound. -/
theorem spots_small {ds : List (DataW H)} (hk : Rows.uptoSmall H ds = true) {j : Nat} {d : DataW H} {cap : Nat} (hd : Spots d cap) (h2 : ds[j]? = some d) : cap ≤ 1048576 := by
  have h1 : Rows.uptoBulkAll ds ≤ 1048576 := of_decide_eq_true hk
  have h3 := bulk_in h2
  rcases hd with ⟨_, rfl⟩ | ⟨es, sp, rfl, rfl⟩
  · omega
  · have h4 := bulk_many es
    have h5 := bulk_many sp
    simp only [Rows.uptoBulk] at h3
    omega
end Go.Proofs.YtlhogjigdmpokaaGreatDoor.tlvc
namespace Go.Proofs.YtlhogjigdmpokaaGreatDoor.tmc
open Go.ChangeShapes Go.WideShapes Go.ChangeAt Go.RowKit Go.Proofs.YtlhogjigdmpokaaGreatDoor.tlvc
set_option linter.unusedVariables false
section
variable {H : Type} {enc : TypeId × Value → H} {P : Program} {W : World} {held : Bool}
theorem four {cs : List Value} (h : cs.length = 4) : ∃ c0 c1 c2 c3, cs = [c0, c1, c2, c3] := by
  match cs, h with
  | [c0, c1, c2, c3], _ => exact ⟨c0, c1, c2, c3, rfl⟩
/-- No part takes more than memory bears. -/
def AllFit (l : List Nat) : Prop := l.all (· ≤ reachBytes) = true
theorem AllFit.left {a b : List Nat} (h : AllFit (a ++ b)) : AllFit a := by unfold AllFit at *; rw [List.all_append, Bool.and_eq_true] at h; exact h.1
theorem AllFit.right {a b : List Nat} (h : AllFit (a ++ b)) : AllFit b := by unfold AllFit at *; rw [List.all_append, Bool.and_eq_true] at h; exact h.2
theorem allFit_mem {T : TypeId} : ∀ {l : List (DataW H)} {d : DataW H}, AllFit (DataW.weightsAll P T l) → d ∈ l → AllFit (d.weights P T)
  | [], _, _, h => by simp at h
  | x :: l, d, h, hd => by
    unfold DataW.weightsAll at h
    rcases List.mem_cons.1 hd with rfl | hd
    · exact h.left
    · exact allFit_mem h.right hd
/-- What memory must have of a type of terms. -/
structure TmT (P : Program) (T : TypeId) where
  U : TypeId
  f0 : Field
  f1 : Field
  f2 : Field
  f3 : Field
  hT : P.underlying T = some (.struct #[f0, f1, f2, f3])
  hone : Go.Deep.oneCellFields P #[f0, f1, f2, f3] = true
  hC : P.cellsOf T = 4
  e0 : P.underlying f0.type = some (.int .i64)
  e1 : P.underlying f1.type = some (.int .i64)
  e2 : P.underlying f2.type = some (.slice U)
  eU : P.underlying U = some (.int .u8)
  cU : P.cellsOf U = 1
  bU : P.bytesOf U = 1
  e3 : P.underlying f3.type = some (.slice T)
theorem kids_of {T : TypeId} (X : TmT P T) {fuel : Nat} (ih : ∀ m, m < fuel → ∀ cs x, DataW.trod enc P W 0 (fun _ => true) held m T cs = some x → ∃ n c0 c1 c2 c3, cs = [c0, c1, c2, c3] ∧ TmC (fun _ => True) W n c0 c1 c2 c3 ∧ (AllFit (x.1.weights P T) → fitD n))
    {S : TypeId} (hS : P.underlying S = some (.slice T)) {cs : List Value} {x : DataW H × List MemPlace} (h : DataW.trod enc P W 0 (fun _ => true) held fuel S cs = some x) :
    ∃ K ck, ∃ ks : List Tm, cs = [.slice K ks.length ck] ∧ ks.length ≤ ck ∧ ck ≤ maxLen ∧ (0 < ks.length → ∃ g off, K = some ⟨g, off, none⟩ ∧ g < W.heap.size ∧ KidsC (fun _ => True) W g off ks) ∧ (AllFit (x.1.weights P S) → fitDs ks) := by
  rcases DataW.trod_slice hS h with ⟨rfl, rfl⟩ | ⟨a, len, cap, elems, rest, m, rfl, rfl, rfl, _, hl, hm, hlen, hel, hsp, _⟩
  · exact ⟨none, 0, [], rfl, Nat.le_refl _, Nat.zero_le _, fun h => absurd h (by simp), fun _ => by unfold fitDs; trivial⟩
  · obtain ⟨b, off, spot⟩ := a
    have each : ∀ i, i < len → ∃ n : Tm, ∃ c0 c1 c2 c3, W.cells? 0 ((⟨b, off, spot⟩ : Addr).add (i * 4)) 4 = some [c0, c1, c2, c3] ∧ TmC (fun _ => True) W n c0 c1 c2 c3 ∧ (∀ e, elems[i]? = some e → AllFit (e.1.weights P T) → fitD n) := by
      intro i hi
      have hk := hel i hi
      rw [X.hC, List.getElem?_eq_getElem (by omega)] at hk
      obtain ⟨cs', h1, h2⟩ := Option.bind_eq_some_iff.1 hk
      obtain ⟨n, c0, c1, c2, c3, rfl, hn, hf⟩ := ih m (Nat.lt_succ_self m) _ _ h2
      exact ⟨n, c0, c1, c2, c3, h1, hn, fun e he => by rw [List.getElem?_eq_getElem (by omega)] at he; cases he; exact hf⟩
    obtain ⟨f, hf⟩ := Go.Deep.choose_lt each
    refine ⟨some ⟨b, off, spot⟩, cap, (List.range len).map f, by simp, by simp; omega, hm, fun hn => ?_, fun hw => ?_⟩
    · have hn : 0 < len := by simpa using hn
      obtain ⟨c0, c1, c2, c3, hc, _⟩ := hf 0 hn
      have hcell := (World.cells?_some hc).2.2 0 (by omega)
      rw [Nat.zero_mul] at hcell
      have hspot : spot = none := by simpa [Addr.add] using World.cell?_spot (hcell.trans rfl)
      subst hspot
      have hlt : b < W.heap.size := by
        have := World.block_lt_of_cell? W _ (hcell.trans rfl)
        simpa [Addr.add] using this
      refine ⟨b, off, rfl, hlt, KidsC.of fun i hi => ?_⟩
      have hi : i < len := by simpa using hi
      obtain ⟨c0, c1, c2, c3, hc, hnd, _⟩ := hf i hi
      have hcs := (World.cells?_some hc).2.2
      have q0 := hcs 0 (by omega)
      have q1 := hcs 1 (by omega)
      have q2 := hcs 2 (by omega)
      have q3 := hcs 3 (by omega)
      rw [Addr.add_lit, Addr.add_lit] at q0 q1 q2 q3
      refine ⟨c0, c1, c2, c3, q0, q1, q2, q3, ?_⟩
      simpa using hnd
    · unfold DataW.weights at hw
      rw [hS] at hw
      have hw : AllFit (((elems.map (·.1)).length + (rest.map (·.1)).length) * P.bytesOf T :: (DataW.weightsAll P T (elems.map (·.1)) ++ DataW.weightsAll P T (rest.map (·.1)))) := hw
      have hw2 : AllFit (DataW.weightsAll P T (elems.map (·.1))) := (AllFit.right (a := [_]) hw).left
      refine fitDs_all.2 fun k hk => ?_
      obtain ⟨i, hi, rfl⟩ := List.mem_map.1 hk
      have hi : i < len := List.mem_range.1 hi
      obtain ⟨_, _, _, _, _, _, hfit⟩ := hf i hi
      have hel : elems[i]? = some (elems[i]'(by omega)) := List.getElem?_eq_getElem (by omega)
      exact hfit _ hel (allFit_mem hw2 (List.mem_map.2 ⟨_, List.getElem_mem _, rfl⟩))
theorem tm_of {T : TypeId} (X : TmT P T) : ∀ (fuel : Nat) (cs : List Value) (x : DataW H × List MemPlace), DataW.trod enc P W 0 (fun _ => true) held fuel T cs = some x → ∃ n c0 c1 c2 c3, cs = [c0, c1, c2, c3] ∧ TmC (fun _ => True) W n c0 c1 c2 c3 ∧ (AllFit (x.1.weights P T) → fitD n) := by
  intro fuel
  induction fuel using Nat.strongRecOn with
  | _ fuel ih =>
    intro cs x h
    obtain ⟨xs, m, rfl, rfl, hl, hlen, hf⟩ := DataW.trod_struct X.hT h
    rw [X.hC] at hl
    obtain ⟨c0, c1, c2, c3, rfl⟩ := four hl
    obtain ⟨y0, y1, y2, y3, rfl⟩ : ∃ y0 y1 y2 y3, xs = [y0, y1, y2, y3] := by
      match xs, hlen with
      | [y0, y1, y2, y3], _ => exact ⟨y0, y1, y2, y3, rfl⟩
    obtain ⟨o0, k0⟩ := Go.Deep.hone_of X.hone 0 X.f0 rfl
    obtain ⟨o1, k1⟩ := Go.Deep.hone_of X.hone 1 X.f1 rfl
    obtain ⟨o2, k2⟩ := Go.Deep.hone_of X.hone 2 X.f2 rfl
    obtain ⟨o3, k3⟩ := Go.Deep.hone_of X.hone 3 X.f3 rfl
    have h0 := hf 0 X.f0 rfl
    have h1 := hf 1 X.f1 rfl
    have h2 := hf 2 X.f2 rfl
    have h3 := hf 3 X.f3 rfl
    rw [o0, k0] at h0
    rw [o1, k1] at h1
    rw [o2, k2] at h2
    rw [o3, k3] at h3
    simp only [List.drop_zero, List.take_succ_cons, List.take_zero, List.drop_succ_cons, List.getElem?_cons_zero, List.getElem?_cons_succ] at h0 h1 h2 h3
    obtain ⟨t, e0, _, wt⟩ := DataW.trod_int X.e0 h0
    simp only [List.cons.injEq, and_true] at e0
    subst e0
    obtain ⟨u, e1, _, wu⟩ := DataW.trod_int X.e1 h1
    simp only [List.cons.injEq, and_true] at e1
    subst e1
    have hb : ∃ A la ca, c2 = .slice A la ca ∧ (AllFit (y2.1.weights P X.f2.type) → la ≤ 140737488351232) := by
      rcases DataW.trod_slice X.e2 h2 with ⟨e, _⟩ | ⟨a, len, cap, elems, rest, _, _, e, hy, _, _, _, hlen, _⟩
      · exact ⟨none, 0, 0, by simpa using e, fun _ => by omega⟩
      · refine ⟨some a, len, cap, by simpa using e, fun hw => ?_⟩
        rw [hy] at hw
        unfold DataW.weights at hw
        rw [X.e2] at hw
        have hw : AllFit (((elems.map (·.1)).length + (rest.map (·.1)).length) * P.bytesOf X.U :: (DataW.weightsAll P X.U (elems.map (·.1)) ++ DataW.weightsAll P X.U (rest.map (·.1)))) := hw
        have hw2 := AllFit.left (a := [_]) hw
        unfold AllFit at hw2
        rw [X.bU, List.length_map, List.length_map] at hw2
        simp only [List.all_cons, List.all_nil, Bool.and_true] at hw2
        have := of_decide_eq_true hw2
        unfold reachBytes at this
        omega
    obtain ⟨A, la, ca, rfl, hfa⟩ := hb
    obtain ⟨b, hby, hb1, hb2, _⟩ := open_bys X.e2 X.eU X.cU ⟨m, h2⟩
    obtain ⟨K, ck, ks, e3, hk1, hk2, hk3, hfk⟩ := kids_of X (fun m' hm' => ih m' (Nat.lt_trans hm' (Nat.lt_succ_self m))) X.e3 h3
    simp only [List.cons.injEq, and_true] at e3
    subst e3
    refine ⟨.mk t u b ks, _, _, _, _, rfl, ?_, fun hw => ?_⟩
    · unfold TmC
      refine ⟨rfl, bounds_i64 wt, rfl, bounds_i64 wu, ⟨A, la, ca, rfl, hb1, hb2, hby, fun _ _ _ _ _ => trivial⟩, K, ck, rfl, hk1, hk2, fun hn => ?_⟩
      obtain ⟨g, off, e, hg, hks⟩ := hk3 hn
      exact ⟨g, off, e, hg, trivial, hks⟩
    · unfold DataW.weights at hw
      rw [X.hT] at hw
      have hw : AllFit (y0.1.weights P X.f0.type ++ (y1.1.weights P X.f1.type ++ (y2.1.weights P X.f2.type ++ (y3.1.weights P X.f3.type ++ [])))) := hw
      unfold fitD
      have hl := hby.1
      exact ⟨by have := hfa hw.right.right.left; omega, hfk hw.right.right.right.left⟩
theorem open_tm {T : TypeId} (X : TmT P T) {r : Reach} {b0 : Nat} {v : Value} {d : DataW H} {p : List MemPlace} (hv : Value.okWide P W r b0 T v) (h : DataW.Trod enc P W 0 (fun _ => true) held T v d p) :
    ∃ n c0 c1 c2 c3, v = .agg #[c0, c1, c2, c3] ∧ TmC (fun _ => True) W n c0 c1 c2 c3 ∧ (AllFit (d.weights P T) → fitD n) := by
  obtain ⟨cs, rfl, hsz⟩ := okWide_struct X.hT hv
  obtain ⟨fuel, hf⟩ := h
  obtain ⟨n, c0, c1, c2, c3, e, hn, hw⟩ := tm_of X fuel _ _ hf
  refine ⟨n, c0, c1, c2, c3, ?_, hn, hw⟩
  have e' : cs.toList = [c0, c1, c2, c3] := e
  congr 1
  exact Array.ext' e'
/-- A slice of terms among the arguments. -/
theorem open_tms {T S : TypeId} (X : TmT P T) (hS : P.underlying S = some (.slice T)) {A : Option Addr} {len cap : Nat} {d : DataW H} {p : List MemPlace} (h : DataW.Trod enc P W 0 (fun _ => true) held S (.slice A len cap) d p) :
    ∃ ks, ks.length = len ∧ Tms W A ks ∧ len ≤ cap ∧ cap ≤ maxLen ∧ (AllFit (d.weights P S) → fitDs ks) := by
  obtain ⟨fuel, hf⟩ := h
  obtain ⟨K, ck, ks, e, h1, h2, h3, h4⟩ := kids_of X (fun m _ cs x hx => tm_of X m cs x hx) hS hf
  have e : Value.slice A len cap = .slice K ks.length ck := by
    have e' : [Value.slice A len cap] = [.slice K ks.length ck] := e
    simpa using e'
  simp only [Value.slice.injEq] at e
  obtain ⟨rfl, rfl, rfl⟩ := e
  exact ⟨ks, rfl, h3, h1, h2, h4⟩
theorem each_fit {ts : List TypeId} {ds : List (DataW H)} (hsz : (DataW.weightsEach P ts ds).all (· ≤ reachBytes) = true) {j : Nat} {t : TypeId} {d : DataW H} (h1 : ts[j]? = some t) (h2 : ds[j]? = some d) : AllFit (d.weights P t) :=
  List.all_eq_true.2 fun n hn => List.all_eq_true.1 hsz n (DataW.weights_mem_each h1 h2 n hn)
end
end Go.Proofs.YtlhogjigdmpokaaGreatDoor.tmc
