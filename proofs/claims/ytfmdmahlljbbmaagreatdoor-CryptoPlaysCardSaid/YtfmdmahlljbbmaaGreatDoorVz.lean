/- What VaultOnce's walk needs of numbers and tables: plain. -/
import Derived.Test.YtfmdmahlljbbmaaGreatDoorVx
namespace Go.Proofs.YtfmdmahlljbbmaaGreatDoor.vtc
open Go.RowKit Go.Proofs.YtfmdmahlljbbmaaGreatDoor.tlvc Go.Proofs.YtfmdmahlljbbmaaGreatDoor.tmc
set_option linter.unusedVariables false
/-- The numbers told so far: -1, or that of a term of the table. -/
def ToldN (xs L : List Tm) (Z : List Int) (i : Nat) : Prop := Z.length = i ∧ ∀ j, j < i → Z.getD j 0 = -1 ∨ ∃ n : Nat, Z.getD j 0 = (n : Int) ∧ n < 4096 ∧ L[n]? = xs[j]?
theorem told_fit {xs L : List Tm} {Z : List Int} {i : Nat} (h : ToldN xs L Z i) : Fit8 Z := fun x hx => by
  obtain ⟨j, hj, rfl⟩ := List.getElem_of_mem hx
  have e : Z[j] = Z.getD j 0 := by rw [List.getD_eq_getElem?_getD, List.getElem?_eq_getElem hj]; rfl
  rw [e]
  rcases h.2 j (by have := h.1; omega) with e | ⟨n, e, hn, _⟩
  · omega
  · omega
theorem told_step {xs L : List Tm} {Z : List Int} {i : Nat} (h : ToldN xs L Z i) {t : Tm} (ht : xs[i]? = some t) {k e : Int} {L' : List Tm} (hin : internV t L = (k, e, L')) (ho : Once L) (hc : Closed L) (hr : ∀ x ∈ L, rightF x 0 = true) (hl : L'.length ≤ 4096) :
    ToldN xs L' (Z ++ [k]) (i + 1) ∧ (e ≠ 0 → k = -1) ∧ I64 k := by
  have hx : L <+: L' ∧ (k = -1 ∨ ∃ n : Nat, k = (n : Int) ∧ L'[n]? = some t) ∧ (e ≠ 0 → k = -1) := by
    rcases intern_ways t L ho hc hr with ⟨j, hf, hj, he⟩ | ⟨hf, ee, hee, he⟩ | ⟨hf, h1, h2, he, _, hf2⟩
    · rw [he] at hin
      obtain ⟨rfl, rfl, rfl⟩ := (by simpa using hin : (j : Int) = k ∧ (0 : Int) = e ∧ L = L')
      exact ⟨List.prefix_refl _, .inr ⟨j, rfl, (findV_some hf).1⟩, fun h => absurd rfl h⟩
    · rw [he] at hin
      obtain ⟨rfl, rfl, rfl⟩ := (by simpa using hin : (-1 : Int) = k ∧ ee = e ∧ L = L')
      exact ⟨List.prefix_refl _, .inl rfl, fun _ => rfl⟩
    · rw [he] at hin
      obtain ⟨hk, rfl, rfl⟩ := (by simpa using hin : ((putV t L).length : Int) - 1 = k ∧ (0 : Int) = e ∧ putV t L = L')
      exact ⟨(put_one t L).pre, .inr ⟨(putV t L).length - 1, by omega, (findV_some hf2).1⟩, fun h => absurd rfl h⟩
  obtain ⟨hp, hk, hek⟩ := hx
  refine ⟨⟨by rw [List.length_append, h.1]; rfl, fun j hj => ?_⟩, hek, ?_⟩
  · rcases Nat.lt_or_ge j i with hji | hji
    · have e : (Z ++ [k]).getD j 0 = Z.getD j 0 := by rw [List.getD_eq_getElem?_getD, List.getD_eq_getElem?_getD, List.getElem?_append_left (by have := h.1; omega)]
      rw [e]
      rcases h.2 j hji with e | ⟨n, e, hn, hL⟩
      · exact .inl e
      · refine .inr ⟨n, e, hn, ?_⟩
        cases hx : xs[j]? with
        | none =>
          have := List.getElem?_eq_none_iff.1 hx
          have := (List.getElem?_eq_some_iff.1 ht).1
          omega
        | some x => rw [hx] at hL; exact prefix_get hp hL
    · obtain rfl : j = i := by omega
      have e : (Z ++ [k]).getD j 0 = k := by rw [List.getD_eq_getElem?_getD, List.getElem?_append_right (by have := h.1; omega), h.1, Nat.sub_self]; rfl
      rw [e, ht]
      rcases hk with e | ⟨n, e, hn⟩
      · exact .inl e
      · exact .inr ⟨n, e, by have := (List.getElem?_eq_some_iff.1 hn).1; omega, hn⟩
  · rcases hk with e | ⟨n, e, hn⟩
    · subst e; unfold I64; omega
    · have := (List.getElem?_eq_some_iff.1 hn).1
      subst e; unfold I64; omega
/-- A kid of a term of the table is found, below it. -/
theorem kid_found {L : List Tm} (ho : Once L) (hc : Closed L) {n : Nat} {o m : Int} {d : List Int} {ks : List Tm} (hn : L[n]? = some (.mk o m d ks)) {k : Tm} (hk : k ∈ ks) : ∃ j : Nat, findV k L = some j ∧ j < n := by
  obtain ⟨j, hj, e⟩ := hc n o m d ks hn k hk
  exact ⟨j, (findV_once ho).2 e, hj⟩
theorem same_nums {L : List Tm} (ho : Once L) {a b : Nat} {s t : Tm} (ha : L[a]? = some s) (hb : L[b]? = some t) : alikeB s t = decide (a = b) := by
  rw [Bool.eq_iff_iff, decide_eq_true_iff, alike_iff]
  constructor
  · rintro rfl; exact ho a b s ha hb
  · rintro rfl; exact Option.some.inj (ha.symm.trans hb)
/-- A vault, and numbers that the law itself keeps beside it. -/
structure VN (w : World) (vb mb : Nat) (ob : Option Nat) (L : List Tm) (v5 : Value) (i : Nat) (Z : List Int) (wx : World) : Prop where
  row : wx.ownsRow w.heap.size 3 1 v5 i (ivals Z)
  vlt : Vlt (fun g => w.heap.size ≤ g ∧ v5.ownBlock ≠ some g) wx vb mb ob L
  bel : Below w.heap.size w wx
section
variable {w : World} {vb mb : Nat} {ob : Option Nat} {L : List Tm} {v5 : Value} {i : Nat} {Z : List Int} {wx : World}
theorem VN.below (h : VN w vb mb ob L v5 i Z wx) {wy : World} (hb : Below wx.heap.size wx wy) : VN w vb mb ob L v5 i Z wy := ⟨own_below h.row hb, h.vlt.below hb, blw h.bel hb⟩
theorem VN.intern (h : VN w vb mb ob L v5 i Z wx) {t : Tm} {v : Value} (hv : TmV (fun g => g < w.heap.size) wx t v) (ht : txc.Tab w.heap.size w) (hsz : szT t ≤ 10000) {k e : Int} {L' : List Tm} (hin : internV t L = (k, e, L')) :
    Calls Tryz.prog 29 #[.pointer (some ⟨vb, 0, none⟩), v] wx fun en w' => ∃ ob', en = .returned (.tuple #[.int .i64 k, .int .i64 e]) ∧ VN w vb mb ob' L' v5 i Z w' := by
  have hc := intern_any _ _ w.heap.size vb mb ob L t v wx h.vlt hv (fun g hg hm => by have := (h.vlt.all g hm).1; omega) (ht.on h.bel) h.bel.size (fun g hg => (h.vlt.all g hg).1) hsz
  rw [hin] at hc
  refine hc.mono ?_
  rintro en w' ⟨ob', rfl, h1, h2, h3⟩
  have h1 : Vlt (fun g => (w.heap.size ≤ g ∧ v5.ownBlock ≠ some g) ∨ wx.heap.size ≤ g) w' vb mb ob' L' := h1
  refine ⟨ob', rfl, own_same h.row fun g hg => h3.block g (h.row.lt g hg).2 (fun hm => (h.vlt.all g hm).2 hg), h1.mono fun g hg => ?_, h.bel.trans (h3.below (fun g hg => (h.vlt.all g hg).1) h.bel.size)⟩
  rcases hg with hg | hg
  · exact hg
  · exact ⟨Nat.le_trans h.bel.size hg, fun e => by have := (h.row.lt g e).2; omega⟩
theorem VN.num (h : VN w vb mb ob L v5 i Z wx) (k : Int) (hk : I64 k) (hi : i ≤ 1000) :
    ∃ v' w', (Builtin.append_ #[78, 78] 78 #[v5, .slice (some ⟨wx.heap.size, 0, none⟩) 1 1]).run Tryz.prog (wx.alloc (.cells #[.int .i64 k] 3)) = .ok v' w' ∧ VN w vb mb ob L v' (i + 1) (Z ++ [k]) w' := by
  obtain ⟨v', w', hrun, g1, g2, g3⟩ := app_int wx w.heap.size v5 i (ivals Z) h.row k hk (by omega) h.bel.size
  have hal : Below wx.heap.size wx (wx.alloc (.cells #[.int .i64 k] 3)) := below_new _ _
  have hoff : Off (fun g => v5.ownBlock = some g) wx w' := (Off.of_below (S := fun g => v5.ownBlock = some g) hal).trans (Off.grown (S := fun g => v5.ownBlock = some g) g2 fun g e => e) (fun _ _ e => e) (fun _ _ e => e)
  refine ⟨v', w', hrun, by rw [ivals_append]; exact g1, ((h.vlt.bound).off hoff fun g hl hg e => hg.1.2 e).mono fun g hg => ⟨hg.1.1, fun e => ?_⟩, h.bel.trans (app_int_below h.row h.bel.size g2)⟩
  rcases g3 with e3 | ⟨b, e3, hb⟩
  · rw [e3] at e; exact hg.1.2 e
  · rw [e3] at e; cases e; have := hg.2; omega
end
/-- A term that the law keeps in a variable of its own. -/
theorem own_term {wt : World} (y0 y1 y2 y3 : Value) : ∃ W5, wt.alloc (.cells #[y0, y1, y2, y3] 57) = W5 ∧ Below wt.heap.size wt W5 ∧ W5.heap[wt.heap.size]? = some (.cells #[y0, y1, y2, y3] 57) :=
  ⟨_, rfl, below_new wt _, heap_new_ wt _⟩
theorem boxT {w W : World} (h : Below w.heap.size w W) {b : Nat} {y0 y1 y2 y3 : Value} {T : TypeId} (hq : w.heap[b]? = some (.cells #[y0, y1, y2, y3] T)) : W.cell? ⟨b, 0, none⟩ = some y0 ∧ W.cell? ⟨b, 1, none⟩ = some y1 ∧ W.cell? ⟨b, 2, none⟩ = some y2 ∧ W.cell? ⟨b, 3, none⟩ = some y3 := by
  have e := (h.block b (Array.getElem?_eq_some_iff.1 hq).1).trans hq
  exact ⟨(Lib.cell_of_heap e _).trans rfl, (Lib.cell_of_heap e _).trans rfl, (Lib.cell_of_heap e _).trans rfl, (Lib.cell_of_heap e _).trans rfl⟩
end Go.Proofs.YtfmdmahlljbbmaaGreatDoor.vtc
