/- What the vault's laws share: the ways of an Intern; the arguments' terms; calls within a law. -/
import Derived.Test.YtfmdmahlljbbmaaGreatDoorVp
namespace Go.Proofs.YtfmdmahlljbbmaaGreatDoor.vtc
open Go.RowKit Go.Proofs.YtfmdmahlljbbmaaGreatDoor.tlvc Go.Proofs.YtfmdmahlljbbmaaGreatDoor.tmc
set_option linter.unusedVariables false
/-- Three ways: it was there; it is refused; it is new, and then it is the last one. -/
theorem intern_ways (t : Tm) (L : List Tm) (ho : Once L) (hc : Closed L) (hr : ∀ x ∈ L, rightF x 0 = true) :
    (∃ i : Nat, findV t L = some i ∧ i < L.length ∧ internV t L = ((i : Int), 0, L)) ∨
    (findV t L = none ∧ ∃ e : Int, (e = 51 ∨ e = 2) ∧ internV t L = (-1, e, L)) ∨
    (findV t L = none ∧ L.length + 1 ≤ (putV t L).length ∧ (putV t L).length ≤ L.length + szT t ∧ internV t L = (((putV t L).length : Int) - 1, 0, putV t L) ∧ internV t (putV t L) = (((putV t L).length : Int) - 1, 0, putV t L) ∧ findV t (putV t L) = some ((putV t L).length - 1)) := by
  cases hr0 : rightF t 0 with
  | false =>
    have hno : findV t L = none := findV_none.2 fun h => by rw [hr t h] at hr0; cases hr0
    exact .inr (.inl ⟨hno, 51, .inl rfl, intern_no hr0⟩)
  | true =>
    cases hf : findV t L with
    | some i => exact .inl ⟨i, rfl, findV_lt hf, intern_had hr0 hf⟩
    | none =>
      by_cases hl : L.length + szT t ≤ 4096
      · obtain ⟨h1, h2⟩ := put_last (findV_none.1 hf)
        have hone := (put_once (t := t) ho hc).1
        have hfl := (findV_once hone).2 h1
        refine .inr (.inr ⟨rfl, h2, (put_one t L).len, intern_new hr0 hf hl, ?_, hfl⟩)
        rw [intern_had hr0 hfl]
        congr 1
        omega
      · exact .inr (.inl ⟨rfl, 2, .inr rfl, intern_full hr0 hf hl⟩)
/-- A term among a law's arguments, where it lies. -/
theorem tms_at {w : World} {A : Option Addr} {xs : List Tm} (h : Tms w A xs) {i : Nat} {t : Tm} (hi : xs[i]? = some t) : ∃ g off to tm tA tla tca tK tlk tck, A = some ⟨g, off, none⟩ ∧ ∀ W, Below w.heap.size w W →
    W.cell? ⟨g, off + i * 4, none⟩ = some (.int .i64 to) ∧ W.cell? ⟨g, off + i * 4 + 1, none⟩ = some (.int .i64 tm) ∧ W.cell? ⟨g, off + i * 4 + 2, none⟩ = some (.slice tA tla tca) ∧ W.cell? ⟨g, off + i * 4 + 3, none⟩ = some (.slice tK tlk tck) ∧ TmV (fun g => g < w.heap.size) W t (.agg #[.int .i64 to, .int .i64 tm, .slice tA tla tca, .slice tK tlk tck]) := by
  obtain ⟨hil, he⟩ := List.getElem?_eq_some_iff.1 hi
  obtain ⟨g, off, rfl, hg, hks⟩ := h (by omega)
  have hk := KidsC.mono (B' := fun g => g < w.heap.size) (fun g hg => hg.2) xs off (KidsC.bound xs off hks)
  obtain ⟨d0, d1, d2, d3, e0, e1, e2, e3, hd⟩ := hk.at i hil
  rw [he] at hd
  obtain ⟨to, tm, tA, tla, tca, tK, tlk, tck, rfl, rfl, rfl, rfl⟩ := hd.shape
  refine ⟨g, off, to, tm, tA, tla, tca, tK, tlk, tck, rfl, fun W hW => ⟨(hW.cell (p := ⟨g, _, none⟩) hg).trans e0, (hW.cell (p := ⟨g, _, none⟩) hg).trans e1, (hW.cell (p := ⟨g, _, none⟩) hg).trans e2, (hW.cell (p := ⟨g, _, none⟩) hg).trans e3, _, _, _, _, rfl, TmC.below hW _ _ _ _ _ hd⟩⟩
/-- An Intern within a law. -/
theorem law_intern {w0 wf : World} {vb mb : Nat} {ob : Option Nat} {L : List Tm} (t : Tm) (v : Value) (hV : Vlt (fun g => w0.heap.size ≤ g) wf vb mb ob L) (hb : Below w0.heap.size w0 wf) (hv : TmV (fun g => g < w0.heap.size) wf t v) (ht : txc.Tab w0.heap.size w0) (hsz : szT t ≤ 10000) :
    Calls Tryz.prog 29 #[.pointer (some ⟨vb, 0, none⟩), v] wf fun e w' => ∃ ob', e = .returned (.tuple #[.int .i64 (internV t L).1, .int .i64 (internV t L).2.1]) ∧ Vlt (fun g => w0.heap.size ≤ g) w' vb mb ob' (internV t L).2.2 ∧ Below w0.heap.size w0 w' := by
  refine (intern_any _ _ w0.heap.size vb mb ob L t v wf hV hv (fun g hg hm => by have := hV.all g hm; omega) (ht.on hb) hb.size (fun g hg => hV.all g hg) hsz).mono ?_
  rintro e w' ⟨ob', rfl, h1, h2, h3⟩
  exact ⟨ob', rfl, h1.mono fun g hg => hg.elim id fun h => Nat.le_trans hb.size h, hb.trans (h3.below (fun g hg => hV.all g hg) hb.size)⟩
theorem blw {w a b : World} (h : Below w.heap.size w a) (k : Below a.heap.size a b) : Below w.heap.size w b := h.trans (k.mono h.size)
/-- The box's cell: how many there are. -/
theorem Vlt.box {S : Nat → Prop} {w : World} {vb mb : Nat} {ob : Option Nat} {L : List Tm} (h : Vlt S w vb mb ob L) : ∃ A c, w.cell? ⟨vb, 0, none⟩ = some (.slice A L.length c) := by
  obtain ⟨A, c, h1, _⟩ := h.cells
  exact ⟨A, c, h1⟩
end Go.Proofs.YtfmdmahlljbbmaaGreatDoor.vtc
