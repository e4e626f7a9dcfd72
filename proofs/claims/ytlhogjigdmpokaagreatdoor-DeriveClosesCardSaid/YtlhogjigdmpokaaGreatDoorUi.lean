/- What VaultOnce's walk needs of numbers and tables: plain. The program's vault and the document's beside it. The program's vault and the document's beside it, while both make terms of their own: Q, blocks of the document's terms; X, blocks of the law's. -/
import Derived.Test.YtlhogjigdmpokaaGreatDoorUg
import Derived.Test.YtlhogjigdmpokaaGreatDoorUh
import Derived.Test.YtlhogjigdmpokaaGreatDoorTj
namespace Go.Proofs.YtlhogjigdmpokaaGreatDoor.vtc
open Go.RowKit Go.Proofs.YtlhogjigdmpokaaGreatDoor.tlvc Go.Proofs.YtlhogjigdmpokaaGreatDoor.tmc
set_option linter.unusedVariables false
/-- The numbers told so far: -1, or that of a term of the table. -/
def ToldN (xs L : List Tm) (Z : List Int) (i : Nat) : Prop := Z.length = i ∧ ∀ j, j < i → Z.getD j 0 = -1 ∨ ∃ n : Nat, Z.getD j 0 = (n : Int) ∧ n < 4096 ∧ L[n]? = xs[j]?
theorem told_fit {xs L : List Tm} {Z : List Int} {i : Nat} (h : ToldN xs L Z i) : Fit8 Z := fun x hx => by
  obtain ⟨j, hj, rfl⟩ := List.getElem_of_mem hx
  have e : Z[j] = Z.getD j 0 := by rw [List.getD_eq_getElem?_getD, List.getElem?_eq_getElem hj]; rfl
  rw [e]
  rcases h.2 j (by have := h.1; omega) with e | ⟨n, e, hn, _⟩
  · omega
  · omega
theorem told_step {xs L : List Tm} {Z : List Int} {i : Nat} (h : ToldN xs L Z i) {t : Tm} (ht : xs[i]? = some t) {k e : Int} {L' : List Tm} (hin : internV t L = (k, e, L')) (ho : Once L) (hc : Closed L) (hr : ∀ x ∈ L, rightF x 0 = true) (hl : L'.length ≤ 4096) :
    ToldN xs L' (Z ++ [k]) (i + 1) ∧ (e ≠ 0 → k = -1) ∧ I64 k := by
  have hx : L <+: L' ∧ (k = -1 ∨ ∃ n : Nat, k = (n : Int) ∧ L'[n]? = some t) ∧ (e ≠ 0 → k = -1) := by
    rcases intern_ways t L ho hc hr with ⟨j, hf, hj, he⟩ | ⟨hf, ee, hee, he⟩ | ⟨hf, h1, h2, he, _, hf2⟩
    · rw [he] at hin
      obtain ⟨rfl, rfl, rfl⟩ := (by simpa using hin : (j : Int) = k ∧ (0 : Int) = e ∧ L = L')
      exact ⟨List.prefix_refl _, .inr ⟨j, rfl, (findV_some hf).1⟩, fun h => absurd rfl h⟩
    · rw [he] at hin
      obtain ⟨rfl, rfl, rfl⟩ := (by simpa using hin : (-1 : Int) = k ∧ ee = e ∧ L = L')
      exact ⟨List.prefix_refl _, .inl rfl, fun _ => rfl⟩
    · rw [he] at hin
      obtain ⟨hk, rfl, rfl⟩ := (by simpa using hin : ((putV t L).length : Int) - 1 = k ∧ (0 : Int) = e ∧ putV t L = L')
      exact ⟨(put_one t L).pre, .inr ⟨(putV t L).length - 1, by omega, (findV_some hf2).1⟩, fun h => absurd rfl h⟩
  obtain ⟨hp, hk, hek⟩ := hx
  refine ⟨⟨by rw [List.length_append, h.1]; rfl, fun j hj => ?_⟩, hek, ?_⟩
  · rcases Nat.lt_or_ge j i with hji | hji
    · have e : (Z ++ [k]).getD j 0 = Z.getD j 0 := by rw [List.getD_eq_getElem?_getD, List.getD_eq_getElem?_getD, List.getElem?_append_left (by have := h.1; omega)]
      rw [e]
      rcases h.2 j hji with e | ⟨n, e, hn, hL⟩
      · exact .inl e
      · refine .inr ⟨n, e, hn, ?_⟩
        cases hx : xs[j]? with
        | none =>
          have := List.getElem?_eq_none_iff.1 hx
          have := (List.getElem?_eq_some_iff.1 ht).1
          omega
        | some x => rw [hx] at hL; exact prefix_get hp hL
    · obtain rfl : j = i := by omega
      have e : (Z ++ [k]).getD j 0 = k := by rw [List.getD_eq_getElem?_getD, List.getElem?_append_right (by have := h.1; omega), h.1, Nat.sub_self]; rfl
      rw [e, ht]
      rcases hk with e | ⟨n, e, hn⟩
      · exact .inl e
      · exact .inr ⟨n, e, by have := (List.getElem?_eq_some_iff.1 hn).1; omega, hn⟩
  · rcases hk with e | ⟨n, e, hn⟩
    · subst e; unfold I64; omega
    · have := (List.getElem?_eq_some_iff.1 hn).1
      subst e; unfold I64; omega
/-- A kid of a term of the table is found, below it. -/
theorem kid_found {L : List Tm} (ho : Once L) (hc : Closed L) {n : Nat} {o m : Int} {d : List Int} {ks : List Tm} (hn : L[n]? = some (.mk o m d ks)) {k : Tm} (hk : k ∈ ks) : ∃ j : Nat, findV k L = some j ∧ j < n := by
  obtain ⟨j, hj, e⟩ := hc n o m d ks hn k hk
  exact ⟨j, (findV_once ho).2 e, hj⟩
theorem same_nums {L : List Tm} (ho : Once L) {a b : Nat} {s t : Tm} (ha : L[a]? = some s) (hb : L[b]? = some t) : alikeB s t = decide (a = b) := by
  rw [Bool.eq_iff_iff, decide_eq_true_iff, alike_iff]
  constructor
  · rintro rfl; exact ho a b s ha hb
  · rintro rfl; exact Option.some.inj (ha.symm.trans hb)
/-- A vault, and numbers that the law itself keeps beside it. -/
structure VN (w : World) (vb mb : Nat) (ob : Option Nat) (L : List Tm) (v5 : Value) (i : Nat) (Z : List Int) (wx : World) : Prop where
  row : wx.ownsRow w.heap.size 3 1 v5 i (ivals Z)
  vlt : Vlt (fun g => w.heap.size ≤ g ∧ v5.ownBlock ≠ some g) wx vb mb ob L
  bel : Below w.heap.size w wx
section
variable {w : World} {vb mb : Nat} {ob : Option Nat} {L : List Tm} {v5 : Value} {i : Nat} {Z : List Int} {wx : World}
theorem VN.below (h : VN w vb mb ob L v5 i Z wx) {wy : World} (hb : Below wx.heap.size wx wy) : VN w vb mb ob L v5 i Z wy := ⟨own_below h.row hb, h.vlt.below hb, blw h.bel hb⟩
theorem VN.intern (h : VN w vb mb ob L v5 i Z wx) {t : Tm} {v : Value} (hv : TmV (fun g => g < w.heap.size) wx t v) (ht : txc.Tab w.heap.size w) (hsz : szT t ≤ 10000) {k e : Int} {L' : List Tm} (hin : internV t L = (k, e, L')) :
    Calls Tryz.prog 26 #[.pointer (some ⟨vb, 0, none⟩), v] wx fun en w' => ∃ ob', en = .returned (.tuple #[.int .i64 k, .int .i64 e]) ∧ VN w vb mb ob' L' v5 i Z w' := by
  have hc := intern_any _ _ w.heap.size vb mb ob L t v wx h.vlt hv (fun g hg hm => by have := (h.vlt.all g hm).1; omega) (ht.on h.bel) h.bel.size (fun g hg => (h.vlt.all g hg).1) hsz
  rw [hin] at hc
  refine hc.mono ?_
  rintro en w' ⟨ob', rfl, h1, h2, h3⟩
  have h1 : Vlt (fun g => (w.heap.size ≤ g ∧ v5.ownBlock ≠ some g) ∨ wx.heap.size ≤ g) w' vb mb ob' L' := h1
  refine ⟨ob', rfl, own_same h.row fun g hg => h3.block g (h.row.lt g hg).2 (fun hm => (h.vlt.all g hm).2 hg), h1.mono fun g hg => ?_, h.bel.trans (h3.below (fun g hg => (h.vlt.all g hg).1) h.bel.size)⟩
  rcases hg with hg | hg
  · exact hg
  · exact ⟨Nat.le_trans h.bel.size hg, fun e => by have := (h.row.lt g e).2; omega⟩
theorem VN.num (h : VN w vb mb ob L v5 i Z wx) (k : Int) (hk : I64 k) (hi : i ≤ 1000) :
    ∃ v' w', (Builtin.append_ #[23, 23] 23 #[v5, .slice (some ⟨wx.heap.size, 0, none⟩) 1 1]).run Tryz.prog (wx.alloc (.cells #[.int .i64 k] 3)) = .ok v' w' ∧ VN w vb mb ob L v' (i + 1) (Z ++ [k]) w' := by
  obtain ⟨v', w', hrun, g1, g2, g3⟩ := app_int wx w.heap.size v5 i (ivals Z) h.row k hk (by omega) h.bel.size
  have hal : Below wx.heap.size wx (wx.alloc (.cells #[.int .i64 k] 3)) := below_new _ _
  have hoff : Off (fun g => v5.ownBlock = some g) wx w' := (Off.of_below (S := fun g => v5.ownBlock = some g) hal).trans (Off.grown (S := fun g => v5.ownBlock = some g) g2 fun g e => e) (fun _ _ e => e) (fun _ _ e => e)
  refine ⟨v', w', hrun, by rw [ivals_append]; exact g1, ((h.vlt.bound).off hoff fun g hl hg e => hg.1.2 e).mono fun g hg => ⟨hg.1.1, fun e => ?_⟩, h.bel.trans (app_int_below h.row h.bel.size g2)⟩
  rcases g3 with e3 | ⟨b, e3, hb⟩
  · rw [e3] at e; exact hg.1.2 e
  · rw [e3] at e; cases e; have := hg.2; omega
end
/-- A term that the law keeps in a variable of its own. -/
theorem own_term {wt : World} (y0 y1 y2 y3 : Value) : ∃ W5, wt.alloc (.cells #[y0, y1, y2, y3] 43) = W5 ∧ Below wt.heap.size wt W5 ∧ W5.heap[wt.heap.size]? = some (.cells #[y0, y1, y2, y3] 43) :=
  ⟨_, rfl, below_new wt _, heap_new_ wt _⟩
theorem boxT {w W : World} (h : Below w.heap.size w W) {b : Nat} {y0 y1 y2 y3 : Value} {T : TypeId} (hq : w.heap[b]? = some (.cells #[y0, y1, y2, y3] T)) : W.cell? ⟨b, 0, none⟩ = some y0 ∧ W.cell? ⟨b, 1, none⟩ = some y1 ∧ W.cell? ⟨b, 2, none⟩ = some y2 ∧ W.cell? ⟨b, 3, none⟩ = some y3 := by
  have e := (h.block b (Array.getElem?_eq_some_iff.1 hq).1).trans hq
  exact ⟨(Lib.cell_of_heap e _).trans rfl, (Lib.cell_of_heap e _).trans rfl, (Lib.cell_of_heap e _).trans rfl, (Lib.cell_of_heap e _).trans rfl⟩
end Go.Proofs.YtlhogjigdmpokaaGreatDoor.vtc
namespace Go.Proofs.YtlhogjigdmpokaaGreatDoor.vtc
open Go.RowKit Go.Proofs.YtlhogjigdmpokaaGreatDoor.tlvc Go.Proofs.YtlhogjigdmpokaaGreatDoor.tmc
set_option linter.unusedVariables false
theorem tms_below {w W : World} {A : Option Addr} {xs : List Tm} (h : Tms w A xs) (hb : Below w.heap.size w W) : Tms W A xs := fun hl => by
  obtain ⟨g, off, e, hg, hk⟩ := h hl
  exact ⟨g, off, e, Nat.lt_of_lt_of_le hg hb.size, KidsC.below hb hg trivial xs off hk⟩
/-- Both vaults; X: blocks that are none of theirs. -/
structure TW (w : World) (X : Nat → Prop) (vb mb : Nat) (ob : Option Nat) (rb : Nat) (od : Option Nat) (Lp Ld : List Tm) (wx : World) : Prop where
  vlt : Vlt (fun g => w.heap.size ≤ g ∧ ¬ MutR rb od g ∧ ¬ X g) wx vb mb ob Lp
  rvl : RVl (fun g => g < w.heap.size) wx rb od Ld
  rx : ∀ g, MutR rb od g → ¬ X g
  bel : Below w.heap.size w wx
section
variable {w : World} {X : Nat → Prop} {vb mb : Nat} {ob : Option Nat} {rb : Nat} {od : Option Nat} {Lp Ld : List Tm} {wx : World}
theorem TW.rlo (h : TW w X vb mb ob rb od Lp Ld wx) {g : Nat} (hg : MutR rb od g) : w.heap.size ≤ g := by
  rcases Nat.lt_or_ge g w.heap.size with hl | hl
  · exact absurd hg (h.rvl.free g hl)
  · exact hl
theorem TW.below (h : TW w X vb mb ob rb od Lp Ld wx) {wy : World} (hb : Below wx.heap.size wx wy) : TW w X vb mb ob rb od Lp Ld wy := ⟨h.vlt.below hb, h.rvl.below hb, h.rx, h.bel.trans (hb.mono h.bel.size)⟩
theorem TW.off (h : TW w X vb mb ob rb od Lp Ld wx) {wy : World} (hX : ∀ g, X g → w.heap.size ≤ g) (k : Off X wx wy) : TW w X vb mb ob rb od Lp Ld wy :=
  ⟨h.vlt.off k fun g _ hg => hg.2.2, h.rvl.off k fun g _ hg hx => hg.elim (fun hq => by have := hX g hx; omega) (fun hm => h.rx g hm hx), h.rx, h.bel.trans (k.below hX h.bel.size)⟩
theorem TW.fresh (h : TW w (fun _ => False) vb mb ob rb od Lp Ld wx) (Y : Nat → Prop) (hY : ∀ g, Y g → wx.heap.size ≤ g) {wy : World} (hb : Below wx.heap.size wx wy) : TW w Y vb mb ob rb od Lp Ld wy :=
  ⟨((h.vlt.bound).mono (fun g hg => ⟨hg.1.1, hg.1.2.1, fun hy => by have := hY g hy; have := hg.2; omega⟩)).below hb, h.rvl.below hb, fun g hm hy => by have := hY g hy; have := h.rvl.lt hm; omega, h.bel.trans (hb.mono h.bel.size)⟩
theorem TW.drop (h : TW w X vb mb ob rb od Lp Ld wx) : TW w (fun _ => False) vb mb ob rb od Lp Ld wx := ⟨h.vlt.mono fun g hg => ⟨hg.1, hg.2.1, id⟩, h.rvl, fun _ _ => id, h.bel⟩
theorem TW.intern (h : TW w X vb mb ob rb od Lp Ld wx) (hXb : ∀ g, X g → g < wx.heap.size) {B : Nat → Prop} {t : Tm} {v : Value} (hv : TmV B wx t v) (hB : ∀ g, B g → X g) (ht : txc.Tab w.heap.size w) (hsz : szT t ≤ 10000) :
    Calls Tryz.prog 26 #[.pointer (some ⟨vb, 0, none⟩), v] wx fun en w' => ∃ ob', en = .returned (.tuple #[.int .i64 (internV t Lp).1, .int .i64 (internV t Lp).2.1]) ∧ TW w X vb mb ob' rb od (internV t Lp).2.2 Ld w' ∧ wx.heap.size ≤ w'.heap.size ∧ ∀ g, X g → w'.heap[g]? = wx.heap[g]? := by
  refine (intern_any _ B w.heap.size vb mb ob Lp t v wx h.vlt hv (fun g hg hm => (h.vlt.all g hm).2.2 (hB g hg)) (ht.on h.bel) h.bel.size (fun g hg => (h.vlt.all g hg).1) hsz).mono ?_
  rintro en w' ⟨ob', rfl, h1, h2, h3⟩
  refine ⟨ob', rfl, ⟨h1.mono fun g hg => ?_, h.rvl.off h3 fun g hl hg hm => ?_, h.rx, h.bel.trans (h3.below (fun g hg => (h.vlt.all g hg).1) h.bel.size)⟩, h3.size, fun g hg => h3.block g (hXb g hg) (fun hm => (h.vlt.all g hm).2.2 hg)⟩
  · rcases hg with hg | hg
    · exact hg
    · exact ⟨Nat.le_trans h.bel.size hg, fun hm => by have := h.rvl.lt hm; omega, fun hx => by have := hXb g hx; omega⟩
  · have := h.vlt.all g hm
    rcases hg with hg | hg
    · omega
    · exact this.2.1 hg
theorem TW.rintern (h : TW w X vb mb ob rb od Lp Ld wx) (hXb : ∀ g, X g → g < wx.heap.size) {t : Tm} {v : Value} (hv : TmV (fun g => g < w.heap.size) wx t v) (hsz : szT t ≤ 10000) :
    Calls Tryz.prog 28 #[.pointer (some ⟨rb, 0, none⟩), v] wx fun en w' => ∃ od', en = .returned (.tuple #[.int .i64 (internV t Ld).1, .int .i64 (internV t Ld).2.1]) ∧ TW w X vb mb ob rb od' Lp (internV t Ld).2.2 w' ∧ wx.heap.size ≤ w'.heap.size ∧ ∀ g, X g → w'.heap[g]? = wx.heap[g]? := by
  refine (rintern_any (fun g => g < w.heap.size) _ rb od Ld t v wx h.rvl hv (fun g hg => hg) (fun g hg => Nat.lt_of_lt_of_le hg h.bel.size) hsz).mono ?_
  rintro en w' ⟨od', rfl, h1, h2, h3⟩
  have hod : ∀ g, g < wx.heap.size → MutR rb od' g → MutR rb od g := fun g hl hm => by
    rcases hm with e | e
    · exact .inl e
    · rcases h2 with e2 | ⟨b, e2, hb⟩
      · exact .inr (e2 ▸ e)
      · rw [e2] at e; cases e; omega
  refine ⟨od', rfl, ⟨((h.vlt.bound).off h3 fun g hl hg => hg.1.2.1).mono fun g hg => ⟨hg.1.1, fun hm => hg.1.2.1 (hod g hg.2 hm), hg.1.2.2⟩, h1, fun g hm hx => h.rx g (hod g (hXb g hx) hm) hx, h.bel.trans (h3.below (fun g hg => h.rlo hg) h.bel.size)⟩, h3.size, fun g hg => h3.block g (hXb g hg) (fun hm => h.rx g hm hg)⟩
end
/-- A byte of a slice of bytes turned. -/
theorem bys_set {w : World} {b off n : Nat} {xs : List Int} (h : Bys w (some ⟨b, off, none⟩) n xs) {k : Nat} (hk : k < n) (v : Int) (hv : 0 ≤ v ∧ v ≤ 255) : Bys (w.setCell ⟨b, off + k, none⟩ (.int .u8 v)) (some ⟨b, off, none⟩) n (xs.set k v) := by
  refine ⟨by rw [List.length_set]; exact h.1, fun x hx => ?_, fun hn => ?_⟩
  · rcases List.mem_or_eq_of_mem_set hx with hx | rfl
    · exact h.2.1 x hx
    · exact hv
  · obtain ⟨b', off', e, hb, hc⟩ := h.2.2 hn
    cases e
    refine ⟨b, off, rfl, by rw [set_size]; exact hb, fun j hj => ?_⟩
    by_cases hjk : j = k
    · subst hjk
      rw [World.cell?_setCell_same _ _ _ (hc j hj)]
      have hl := h.1
      rw [List.getD_eq_getElem?_getD, List.getElem?_set_self (by omega)]
      rfl
    · rw [World.cell?_setCell_other _ _ _ _ (by intro e; simp only [Addr.mk.injEq] at e; omega), hc j hj]
      rw [List.getD_eq_getElem?_getD, List.getD_eq_getElem?_getD, List.getElem?_set_ne (by omega)]
/-- The data that a law turns, in blocks of X; the box that leads to them. -/
structure OW (w : World) (X : Nat → Prop) (vb mb : Nat) (ob : Option Nat) (rb : Nat) (od : Option Nat) (Lp Ld : List Tm) (bx : Nat) (y0 y1 y3 : Value) (A : Option Addr) (la ca : Nat) (wx : World) : Prop where
  tw : TW w X vb mb ob rb od Lp Ld wx
  box : wx.heap[bx]? = some (.cells #[y0, y1, .slice A la ca, y3] 43)
  data : ∃ d, Bys wx A la d
  nf : NF wx A la
  inx : 0 < la → ∀ g off sp, A = some ⟨g, off, sp⟩ → X g ∧ g ≠ bx
  xlo : ∀ g, X g → w.heap.size ≤ g
section
variable {w : World} {X : Nat → Prop} {vb mb : Nat} {ob : Option Nat} {rb : Nat} {od : Option Nat} {Lp Ld : List Tm} {bx : Nat} {y0 y1 y3 : Value} {A : Option Addr} {la ca : Nat} {wx : World}
theorem OW.box4 (h : OW w X vb mb ob rb od Lp Ld bx y0 y1 y3 A la ca wx) : wx.cell? ⟨bx, 0, none⟩ = some y0 ∧ wx.cell? ⟨bx, 1, none⟩ = some y1 ∧ wx.cell? ⟨bx, 2, none⟩ = some (.slice A la ca) ∧ wx.cell? ⟨bx, 3, none⟩ = some y3 :=
  ⟨(Lib.cell_of_heap h.box _).trans rfl, (Lib.cell_of_heap h.box _).trans rfl, (Lib.cell_of_heap h.box _).trans rfl, (Lib.cell_of_heap h.box _).trans rfl⟩
theorem OW.byte (h : OW w X vb mb ob rb od Lp Ld bx y0 y1 y3 A la ca wx) {k : Nat} (hk : k < la) : ∃ b off x, A = some ⟨b, off, none⟩ ∧ wx.cell? ⟨b, off + k, none⟩ = some (.int .u8 x) ∧ (0 ≤ x ∧ x ≤ 255) ∧ wx.frozen? ⟨b, off + k, none⟩ = false ∧
    ∀ v, 0 ≤ v ∧ v ≤ 255 → OW w X vb mb ob rb od Lp Ld bx y0 y1 y3 A la ca (wx.setCell ⟨b, off + k, none⟩ (.int .u8 v)) := by
  obtain ⟨d, hd⟩ := h.data
  obtain ⟨b, off, rfl, hb, hc⟩ := hd.2.2 (by omega)
  obtain ⟨hX, hne⟩ := h.inx (by omega) _ _ _ rfl
  refine ⟨b, off, d.getD k 0, rfl, hc k hk, hd.2.1.getD k, h.nf (by omega) _ _ _ rfl _, fun v hv => ⟨h.tw.off h.xlo (Off.set wx b (off + k) (.int .u8 v) hX), (set_heap_other _ _ _ _ _ (fun e => hne e.symm)).trans h.box, ⟨_, bys_set hd hk v hv⟩, fun hl g o sp e j => ?_, h.inx, h.xlo⟩⟩
  cases e
  have h2 := h.nf hl _ _ _ rfl j
  unfold World.frozen? at h2 ⊢
  obtain ⟨cs, T, fr, hq⟩ : ∃ cs T fr, wx.heap[b]? = some (.cells cs T fr) := by
    have := hc k hk
    unfold World.cell? at this
    split at this
    · rename_i c T fr hq
      exact ⟨c, T, fr, hq⟩
    · cases this
  rw [hq] at h2
  rw [set_heap _ _ _ _ _ _ _ hq]
  exact h2
end
/-- Both are empty. -/
theorem TW.start {w wv : World} {vb mb : Nat} (hb : Below w.heap.size w wv) (hV : Vlt (fun g => w.heap.size ≤ g) wv vb mb none []) : TW w (fun _ => False) vb mb none wv.heap.size none [] [] (wv.alloc (.cells #[.slice none 0 0] 60)) := by
  have hal : Below wv.heap.size wv (wv.alloc (.cells #[.slice none 0 0] 60)) := below_new _ _
  have h1 : ∀ g, (w.heap.size ≤ g ∧ g < wv.heap.size) → ¬ MutR wv.heap.size none g := fun g hg hm => by
    rcases hm with e | e
    · omega
    · cases e
  have h2 : ∀ g, g < w.heap.size → ¬ MutR wv.heap.size none g := fun g hg hm => by
    rcases hm with e | e
    · have := hb.size; omega
    · cases e
  exact ⟨((hV.bound).mono fun g hg => ⟨hg.1, h1 g hg, id⟩).below hal, ⟨⟨none, 0, [], heap_new_ _ _, World.ownsRow_nil _ _ _ _, rfl, rfl⟩, (fun e => by cases e), h2, by simp⟩, fun _ _ => id, hb.trans (hal.mono hb.size)⟩
theorem nf_zero {B : Nat → Prop} {w : World} {v : Value} (h : TmV B w (.mk 0 0 [] []) v) : NFv w v := fun c0 c1 A la ca c3 e hl => by
  obtain ⟨y0, y1, y2, y3, e2, hy⟩ := h
  rw [e] at e2
  have e3 := congrArg Array.toList (Value.agg.inj e2)
  simp only [List.cons.injEq] at e3
  obtain ⟨_, _, e4, _⟩ := e3
  subst e4
  unfold TmC at hy
  obtain ⟨_, _, _, _, ⟨A', la', ca', e5, _, _, h3, _⟩, _⟩ := hy
  cases e5
  have := h3.1
  simp at this
  omega
theorem stays_lo {w a b : World} (h1 : Below w.heap.size w a) (h2 : Below w.heap.size w b) (hs : a.heap.size ≤ b.heap.size) : Stays (fun g => g < w.heap.size) a b :=
  ⟨hs, fun p hp _ => cell_same ((h2.block p.block hp).trans (h1.block p.block hp).symm)⟩
/-- A copy of the law's own, ready to be turned. -/
theorem OW.start {w : World} {X : Nat → Prop} {vb mb : Nat} {ob : Option Nat} {rb : Nat} {od : Option Nat} {Lp Ld : List Tm} {lo bx : Nat} {o m : Int} {A K : Option Addr} {la ca lk ck : Nat} {t : Tm} {wc W5 wx : World} (h : TW w X vb mb ob rb od Lp Ld wx) (hX : X = fun g => lo ≤ g ∧ g < W5.heap.size) (hlo : w.heap.size ≤ lo)
    (hy : TmC (fun g => lo ≤ g) wc t (.int .i64 o) (.int .i64 m) (.slice A la ca) (.slice K lk ck)) (hnf : NF wc A la) (hb : Below wc.heap.size wc W5) (hbx : bx = wc.heap.size) (hlb : lo ≤ wc.heap.size) (hpb : W5.heap[bx]? = some (.cells #[.int .i64 o, .int .i64 m, .slice A la ca, .slice K lk ck] 43))
    (hs : W5.heap.size ≤ wx.heap.size) (hk : ∀ g, X g → wx.heap[g]? = W5.heap[g]?) : OW w X vb mb ob rb od Lp Ld bx (.int .i64 o) (.int .i64 m) (.slice K lk ck) A la ca wx := by
  obtain ⟨d, hd, _, _, hB⟩ := data_of hy
  have hlt : ∀ g off sp, 0 < la → A = some ⟨g, off, sp⟩ → g < wc.heap.size := fun g off sp hl e => by
    obtain ⟨b', off', e', hb', _⟩ := hd.2.2 hl
    rw [e'] at e; cases e; exact hb'
  have hXb : X bx := by rw [hX]; exact ⟨by omega, (Array.getElem?_eq_some_iff.1 hpb).1⟩
  have hXA : 0 < la → ∀ g off sp, A = some ⟨g, off, sp⟩ → X g := fun hl g off sp e => by rw [hX]; exact ⟨hB hl g off sp e, Nat.lt_of_lt_of_le (hlt g off sp hl e) hb.size⟩
  have hd5 := hd.below hb
  have hn5 : NF W5 A la := hnf.keep hd fun _ g _ _ _ hg => hb.block g hg
  exact ⟨h, (hk bx hXb).trans hpb, ⟨d, bys_stays (B := X) ⟨hs, fun p hp _ => cell_same (hk p.block hp)⟩ hd5 hXA⟩, hn5.keep hd5 fun hl g off sp e _ => hk g (hXA hl g off sp e), fun hl g off sp e => ⟨hXA hl g off sp e, by have := hlt g off sp hl e; omega⟩, fun g hg => by rw [hX] at hg; omega⟩
end Go.Proofs.YtlhogjigdmpokaaGreatDoor.vtc
namespace Go.Proofs.YtlhogjigdmpokaaGreatDoor.vtc
open Go.RowKit Go.Proofs.YtlhogjigdmpokaaGreatDoor.tlvc Go.Proofs.YtlhogjigdmpokaaGreatDoor.tmc
set_option linter.unusedVariables false
/-- What the program's vault may use. -/
def Sp (w : World) (Q X : Nat → Prop) (rb : Nat) (od : Option Nat) (g : Nat) : Prop := w.heap.size ≤ g ∧ ¬ MutR rb od g ∧ ¬ Q g ∧ ¬ X g
structure TV (w : World) (Q X : Nat → Prop) (vb mb : Nat) (ob : Option Nat) (rb : Nat) (od : Option Nat) (Lp Ld : List Tm) (wx : World) : Prop where
  vlt : Vlt (Sp w Q X rb od) wx vb mb ob Lp
  rvl : RVl Q wx rb od Ld
  qb : ∀ g, Q g → g < wx.heap.size
  qlo : ∀ g, g < w.heap.size → Q g
  rx : ∀ g, MutR rb od g → ¬ X g
  bel : Below w.heap.size w wx
/-- What a function of the document's leaves that makes terms of its own on the way. -/
def RInternQ (Q : Nat → Prop) (rb : Nat) (od : Option Nat) (w : World) (r : Int × Int × List Tm) (e : Ending) (w' : World) : Prop := ∃ od' Q', e = .returned (.tuple #[.int .i64 r.1, .int .i64 r.2.1]) ∧ RVl Q' w' rb od' r.2.2 ∧ (∀ g, Q' g → (Q g ∨ w.heap.size ≤ g) ∧ g < w'.heap.size) ∧ (∀ g, Q g → Q' g) ∧ (od' = od ∨ ∃ g, od' = some g ∧ w.heap.size ≤ g) ∧ Off (MutR rb od) w w'
section
variable {w : World} {Q X : Nat → Prop} {vb mb : Nat} {ob : Option Nat} {rb : Nat} {od : Option Nat} {Lp Ld : List Tm} {wx : World}
theorem TV.rlo (h : TV w Q X vb mb ob rb od Lp Ld wx) {g : Nat} (hg : MutR rb od g) : w.heap.size ≤ g := by
  rcases Nat.lt_or_ge g w.heap.size with hl | hl
  · exact absurd hg (h.rvl.free g (h.qlo g hl))
  · exact hl
theorem TV.below (h : TV w Q X vb mb ob rb od Lp Ld wx) {wy : World} (hb : Below wx.heap.size wx wy) : TV w Q X vb mb ob rb od Lp Ld wy := ⟨h.vlt.below hb, h.rvl.below hb, fun g hg => Nat.lt_of_lt_of_le (h.qb g hg) hb.size, h.qlo, h.rx, h.bel.trans (hb.mono h.bel.size)⟩
theorem TV.off (h : TV w Q X vb mb ob rb od Lp Ld wx) {wy : World} (hX : ∀ g, X g → w.heap.size ≤ g ∧ ¬ Q g) (k : Off X wx wy) : TV w Q X vb mb ob rb od Lp Ld wy :=
  ⟨h.vlt.off k fun g _ hg => hg.2.2.2, h.rvl.off k fun g _ hg hx => hg.elim (fun hq => (hX g hx).2 hq) (fun hm => h.rx g hm hx), fun g hg => Nat.lt_of_lt_of_le (h.qb g hg) k.size, h.qlo, h.rx, h.bel.trans (k.below (fun g hg => (hX g hg).1) h.bel.size)⟩
theorem TV.fresh (h : TV w Q (fun _ => False) vb mb ob rb od Lp Ld wx) (Y : Nat → Prop) (hY : ∀ g, Y g → wx.heap.size ≤ g) {wy : World} (hb : Below wx.heap.size wx wy) : TV w Q Y vb mb ob rb od Lp Ld wy :=
  ⟨((h.vlt.bound).mono (fun g hg => ⟨hg.1.1, hg.1.2.1, hg.1.2.2.1, fun hy => by have := hY g hy; have := hg.2; omega⟩)).below hb, h.rvl.below hb, fun g hg => Nat.lt_of_lt_of_le (h.qb g hg) hb.size, h.qlo, fun g hm hy => by have := hY g hy; have := h.rvl.lt hm; omega, h.bel.trans (hb.mono h.bel.size)⟩
theorem TV.drop (h : TV w Q X vb mb ob rb od Lp Ld wx) : TV w Q (fun _ => False) vb mb ob rb od Lp Ld wx := ⟨h.vlt.mono fun g hg => ⟨hg.1, hg.2.1, hg.2.2.1, id⟩, h.rvl, h.qb, h.qlo, fun _ _ => id, h.bel⟩
/-- Behind a call of the program's that makes a term. -/
theorem TV.prog (h : TV w Q X vb mb ob rb od Lp Ld wx) (hX : ∀ g, X g → g < wx.heap.size) {r : Int × Int × List Tm} {e : Ending} {w' : World} (hp : InternPost (Sp w Q X rb od) vb mb ob wx r e w') :
    ∃ ob', e = .returned (.tuple #[.int .i64 r.1, .int .i64 r.2.1]) ∧ TV w Q X vb mb ob' rb od r.2.2 Ld w' ∧ wx.heap.size ≤ w'.heap.size ∧ ∀ g, X g → w'.heap[g]? = wx.heap[g]? := by
  obtain ⟨ob', he, h1, h2, h3⟩ := hp
  refine ⟨ob', he, ⟨h1.mono fun g hg => ?_, h.rvl.off h3 fun g hl hg hm => ?_, fun g hg => Nat.lt_of_lt_of_le (h.qb g hg) h3.size, h.qlo, h.rx, h.bel.trans (h3.below (fun g hg => (h.vlt.all g hg).1) h.bel.size)⟩, h3.size, fun g hg => h3.block g (hX g hg) (fun hm => (h.vlt.all g hm).2.2.2 hg)⟩
  · rcases hg with hg | hg
    · exact hg
    · exact ⟨Nat.le_trans h.bel.size hg, fun hm => by have := h.rvl.lt hm; omega, fun hq => by have := h.qb g hq; omega, fun hx => by have := hX g hx; omega⟩
  · have := h.vlt.all g hm
    rcases hg with hg | hg
    · exact this.2.2.1 hg
    · exact this.2.1 hg
/-- Behind a call of the document's that makes a term. -/
theorem TV.doc (h : TV w Q X vb mb ob rb od Lp Ld wx) (hX : ∀ g, X g → g < wx.heap.size) {r : Int × Int × List Tm} {e : Ending} {w' : World} (hp : RInternQ Q rb od wx r e w') :
    ∃ od' Q', e = .returned (.tuple #[.int .i64 r.1, .int .i64 r.2.1]) ∧ TV w Q' X vb mb ob rb od' Lp r.2.2 w' ∧ wx.heap.size ≤ w'.heap.size ∧ (∀ g, X g → w'.heap[g]? = wx.heap[g]?) ∧ ∀ g, Q' g → Q g ∨ wx.heap.size ≤ g := by
  obtain ⟨od', Q', he, h1, hq, hq2, h2, h3⟩ := hp
  have hod : ∀ g, g < wx.heap.size → MutR rb od' g → MutR rb od g := fun g hl hm => by
    rcases hm with e | e
    · exact .inl e
    · rcases h2 with e2 | ⟨b, e2, hb⟩
      · exact .inr (e2 ▸ e)
      · rw [e2] at e; cases e; omega
  refine ⟨od', Q', he, ⟨((h.vlt.bound).off h3 fun g hl hg => hg.1.2.1).mono fun g hg => ⟨hg.1.1, fun hm => hg.1.2.1 (hod g hg.2 hm), fun hq' => ?_, hg.1.2.2.2⟩, h1, fun g hg => (hq g hg).2, fun g hg => hq2 g (h.qlo g hg), fun g hm hx => h.rx g (hod g (hX g hx) hm) hx, h.bel.trans (h3.below (fun g hg => h.rlo hg) h.bel.size)⟩, h3.size, fun g hg => h3.block g (hX g hg) (fun hm => h.rx g hm hg), fun g hg => (hq g hg).1⟩
  rcases (hq g hq').1 with h4 | h4
  · exact hg.1.2.2.1 h4
  · have := hg.2; omega
end
/-- An Intern of the document's of a term that lies partly in new memory. -/
theorem rintern_wide {Q : Nat → Prop} {rb : Nat} {od : Option Nat} {L : List Tm} {w0 w2 : World} (hV : RVl Q w0 rb od L) (hQ : ∀ g, Q g → g < w0.heap.size) (hb : Below w0.heap.size w0 w2) {t : Tm} {v : Value} (hv : TmV (fun g => Q g ∨ w0.heap.size ≤ g) w2 t v) (hsz : szT t ≤ 10000) :
    Calls Tryz.prog 28 #[.pointer (some ⟨rb, 0, none⟩), v] w2 (RInternQ Q rb od w0 (internV t L)) := by
  obtain ⟨Q2, hQ2⟩ : ∃ Q2 : Nat → Prop, Q2 = fun g => (Q g ∨ w0.heap.size ≤ g) ∧ g < w2.heap.size := ⟨_, rfl⟩
  have hs := hb.size
  have hV2 : RVl Q2 w2 rb od L := (hV.below hb).mono (fun g hg => by rw [hQ2]; exact ⟨.inl hg, by have := hQ g hg; omega⟩) (fun g hg hm => by
    rw [hQ2] at hg
    rcases hg.1 with h | h
    · exact hV.free g h hm
    · have := hV.lt hm; omega)
  obtain ⟨c0, c1, c2, c3, rfl, hc⟩ := hv
  refine (rintern_any Q2 Q2 rb od L t (.agg #[c0, c1, c2, c3]) w2 hV2 ⟨_, _, _, _, rfl, by rw [hQ2]; exact TmC.bound _ _ _ _ _ hc⟩ (fun g hg => hg) (fun g hg => by rw [hQ2] at hg; exact hg.2) hsz).mono ?_
  rintro e w' ⟨od', rfl, h1, h2, h3⟩
  refine ⟨od', Q2, rfl, h1, fun g hg => ?_, fun g hg => by rw [hQ2]; exact ⟨.inl hg, by have := hQ g hg; omega⟩, h2.imp id fun ⟨g, e, hg⟩ => ⟨g, e, by omega⟩, (Off.of_below (S := MutR rb od) hb).trans h3 (fun _ _ e => e) (fun _ _ e => e)⟩
  rw [hQ2] at hg
  exact ⟨hg.1, Nat.lt_of_lt_of_le hg.2 h3.size⟩
/-- As at the beginning of a law. -/
theorem TW.wide {w : World} {X : Nat → Prop} {vb mb : Nat} {ob : Option Nat} {rb : Nat} {od : Option Nat} {Lp Ld : List Tm} {wx : World} (h : TW w X vb mb ob rb od Lp Ld wx) : TV w (fun g => g < w.heap.size) X vb mb ob rb od Lp Ld wx :=
  ⟨h.vlt.mono fun g hg => ⟨hg.1, hg.2.1, fun hq => by have := hg.1; omega, hg.2.2⟩, h.rvl, fun g hg => Nat.lt_of_lt_of_le hg h.bel.size, fun g hg => hg, h.rx, h.bel⟩
end Go.Proofs.YtlhogjigdmpokaaGreatDoor.vtc
