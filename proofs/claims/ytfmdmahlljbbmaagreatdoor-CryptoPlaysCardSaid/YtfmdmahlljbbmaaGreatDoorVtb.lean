/- The program's vault and the document's beside it, while both make terms of their own: Q, blocks of the document's terms; X, blocks of the law's. -/
import Derived.Test.YtfmdmahlljbbmaaGreatDoorVta
namespace Go.Proofs.YtfmdmahlljbbmaaGreatDoor.vtc
open Go.RowKit Go.Proofs.YtfmdmahlljbbmaaGreatDoor.tlvc Go.Proofs.YtfmdmahlljbbmaaGreatDoor.tmc
set_option linter.unusedVariables false
/-- What the program's vault may use. -/
def Sp (w : World) (Q X : Nat → Prop) (rb : Nat) (od : Option Nat) (g : Nat) : Prop := w.heap.size ≤ g ∧ ¬ MutR rb od g ∧ ¬ Q g ∧ ¬ X g
structure TV (w : World) (Q X : Nat → Prop) (vb mb : Nat) (ob : Option Nat) (rb : Nat) (od : Option Nat) (Lp Ld : List Tm) (wx : World) : Prop where
  vlt : Vlt (Sp w Q X rb od) wx vb mb ob Lp
  rvl : RVl Q wx rb od Ld
  qb : ∀ g, Q g → g < wx.heap.size
  qlo : ∀ g, g < w.heap.size → Q g
  rx : ∀ g, MutR rb od g → ¬ X g
  bel : Below w.heap.size w wx
/-- What a function of the document's leaves that makes terms of its own on the way. -/
def RInternQ (Q : Nat → Prop) (rb : Nat) (od : Option Nat) (w : World) (r : Int × Int × List Tm) (e : Ending) (w' : World) : Prop := ∃ od' Q', e = .returned (.tuple #[.int .i64 r.1, .int .i64 r.2.1]) ∧ RVl Q' w' rb od' r.2.2 ∧ (∀ g, Q' g → (Q g ∨ w.heap.size ≤ g) ∧ g < w'.heap.size) ∧ (∀ g, Q g → Q' g) ∧ (od' = od ∨ ∃ g, od' = some g ∧ w.heap.size ≤ g) ∧ Off (MutR rb od) w w'
section
variable {w : World} {Q X : Nat → Prop} {vb mb : Nat} {ob : Option Nat} {rb : Nat} {od : Option Nat} {Lp Ld : List Tm} {wx : World}
theorem TV.rlo (h : TV w Q X vb mb ob rb od Lp Ld wx) {g : Nat} (hg : MutR rb od g) : w.heap.size ≤ g := by
  rcases Nat.lt_or_ge g w.heap.size with hl | hl
  · exact absurd hg (h.rvl.free g (h.qlo g hl))
  · exact hl
theorem TV.below (h : TV w Q X vb mb ob rb od Lp Ld wx) {wy : World} (hb : Below wx.heap.size wx wy) : TV w Q X vb mb ob rb od Lp Ld wy := ⟨h.vlt.below hb, h.rvl.below hb, fun g hg => Nat.lt_of_lt_of_le (h.qb g hg) hb.size, h.qlo, h.rx, h.bel.trans (hb.mono h.bel.size)⟩
theorem TV.off (h : TV w Q X vb mb ob rb od Lp Ld wx) {wy : World} (hX : ∀ g, X g → w.heap.size ≤ g ∧ ¬ Q g) (k : Off X wx wy) : TV w Q X vb mb ob rb od Lp Ld wy :=
  ⟨h.vlt.off k fun g _ hg => hg.2.2.2, h.rvl.off k fun g _ hg hx => hg.elim (fun hq => (hX g hx).2 hq) (fun hm => h.rx g hm hx), fun g hg => Nat.lt_of_lt_of_le (h.qb g hg) k.size, h.qlo, h.rx, h.bel.trans (k.below (fun g hg => (hX g hg).1) h.bel.size)⟩
theorem TV.fresh (h : TV w Q (fun _ => False) vb mb ob rb od Lp Ld wx) (Y : Nat → Prop) (hY : ∀ g, Y g → wx.heap.size ≤ g) {wy : World} (hb : Below wx.heap.size wx wy) : TV w Q Y vb mb ob rb od Lp Ld wy :=
  ⟨((h.vlt.bound).mono (fun g hg => ⟨hg.1.1, hg.1.2.1, hg.1.2.2.1, fun hy => by have := hY g hy; have := hg.2; omega⟩)).below hb, h.rvl.below hb, fun g hg => Nat.lt_of_lt_of_le (h.qb g hg) hb.size, h.qlo, fun g hm hy => by have := hY g hy; have := h.rvl.lt hm; omega, h.bel.trans (hb.mono h.bel.size)⟩
theorem TV.drop (h : TV w Q X vb mb ob rb od Lp Ld wx) : TV w Q (fun _ => False) vb mb ob rb od Lp Ld wx := ⟨h.vlt.mono fun g hg => ⟨hg.1, hg.2.1, hg.2.2.1, id⟩, h.rvl, h.qb, h.qlo, fun _ _ => id, h.bel⟩
/-- Behind a call of the program's that makes a term. -/
theorem TV.prog (h : TV w Q X vb mb ob rb od Lp Ld wx) (hX : ∀ g, X g → g < wx.heap.size) {r : Int × Int × List Tm} {e : Ending} {w' : World} (hp : InternPost (Sp w Q X rb od) vb mb ob wx r e w') :
    ∃ ob', e = .returned (.tuple #[.int .i64 r.1, .int .i64 r.2.1]) ∧ TV w Q X vb mb ob' rb od r.2.2 Ld w' ∧ wx.heap.size ≤ w'.heap.size ∧ ∀ g, X g → w'.heap[g]? = wx.heap[g]? := by
  obtain ⟨ob', he, h1, h2, h3⟩ := hp
  refine ⟨ob', he, ⟨h1.mono fun g hg => ?_, h.rvl.off h3 fun g hl hg hm => ?_, fun g hg => Nat.lt_of_lt_of_le (h.qb g hg) h3.size, h.qlo, h.rx, h.bel.trans (h3.below (fun g hg => (h.vlt.all g hg).1) h.bel.size)⟩, h3.size, fun g hg => h3.block g (hX g hg) (fun hm => (h.vlt.all g hm).2.2.2 hg)⟩
  · rcases hg with hg | hg
    · exact hg
    · exact ⟨Nat.le_trans h.bel.size hg, fun hm => by have := h.rvl.lt hm; omega, fun hq => by have := h.qb g hq; omega, fun hx => by have := hX g hx; omega⟩
  · have := h.vlt.all g hm
    rcases hg with hg | hg
    · exact this.2.2.1 hg
    · exact this.2.1 hg
/-- Behind a call of the document's that makes a term. -/
theorem TV.doc (h : TV w Q X vb mb ob rb od Lp Ld wx) (hX : ∀ g, X g → g < wx.heap.size) {r : Int × Int × List Tm} {e : Ending} {w' : World} (hp : RInternQ Q rb od wx r e w') :
    ∃ od' Q', e = .returned (.tuple #[.int .i64 r.1, .int .i64 r.2.1]) ∧ TV w Q' X vb mb ob rb od' Lp r.2.2 w' ∧ wx.heap.size ≤ w'.heap.size ∧ (∀ g, X g → w'.heap[g]? = wx.heap[g]?) ∧ ∀ g, Q' g → Q g ∨ wx.heap.size ≤ g := by
  obtain ⟨od', Q', he, h1, hq, hq2, h2, h3⟩ := hp
  have hod : ∀ g, g < wx.heap.size → MutR rb od' g → MutR rb od g := fun g hl hm => by
    rcases hm with e | e
    · exact .inl e
    · rcases h2 with e2 | ⟨b, e2, hb⟩
      · exact .inr (e2 ▸ e)
      · rw [e2] at e; cases e; omega
  refine ⟨od', Q', he, ⟨((h.vlt.bound).off h3 fun g hl hg => hg.1.2.1).mono fun g hg => ⟨hg.1.1, fun hm => hg.1.2.1 (hod g hg.2 hm), fun hq' => ?_, hg.1.2.2.2⟩, h1, fun g hg => (hq g hg).2, fun g hg => hq2 g (h.qlo g hg), fun g hm hx => h.rx g (hod g (hX g hx) hm) hx, h.bel.trans (h3.below (fun g hg => h.rlo hg) h.bel.size)⟩, h3.size, fun g hg => h3.block g (hX g hg) (fun hm => h.rx g hm hg), fun g hg => (hq g hg).1⟩
  rcases (hq g hq').1 with h4 | h4
  · exact hg.1.2.2.1 h4
  · have := hg.2; omega
end
/-- An Intern of the document's of a term that lies partly in new memory. -/
theorem rintern_wide {Q : Nat → Prop} {rb : Nat} {od : Option Nat} {L : List Tm} {w0 w2 : World} (hV : RVl Q w0 rb od L) (hQ : ∀ g, Q g → g < w0.heap.size) (hb : Below w0.heap.size w0 w2) {t : Tm} {v : Value} (hv : TmV (fun g => Q g ∨ w0.heap.size ≤ g) w2 t v) (hsz : szT t ≤ 10000) :
    Calls Tryz.prog 30 #[.pointer (some ⟨rb, 0, none⟩), v] w2 (RInternQ Q rb od w0 (internV t L)) := by
  obtain ⟨Q2, hQ2⟩ : ∃ Q2 : Nat → Prop, Q2 = fun g => (Q g ∨ w0.heap.size ≤ g) ∧ g < w2.heap.size := ⟨_, rfl⟩
  have hs := hb.size
  have hV2 : RVl Q2 w2 rb od L := (hV.below hb).mono (fun g hg => by rw [hQ2]; exact ⟨.inl hg, by have := hQ g hg; omega⟩) (fun g hg hm => by
    rw [hQ2] at hg
    rcases hg.1 with h | h
    · exact hV.free g h hm
    · have := hV.lt hm; omega)
  obtain ⟨c0, c1, c2, c3, rfl, hc⟩ := hv
  refine (rintern_any Q2 Q2 rb od L t (.agg #[c0, c1, c2, c3]) w2 hV2 ⟨_, _, _, _, rfl, by rw [hQ2]; exact TmC.bound _ _ _ _ _ hc⟩ (fun g hg => hg) (fun g hg => by rw [hQ2] at hg; exact hg.2) hsz).mono ?_
  rintro e w' ⟨od', rfl, h1, h2, h3⟩
  refine ⟨od', Q2, rfl, h1, fun g hg => ?_, fun g hg => by rw [hQ2]; exact ⟨.inl hg, by have := hQ g hg; omega⟩, h2.imp id fun ⟨g, e, hg⟩ => ⟨g, e, by omega⟩, (Off.of_below (S := MutR rb od) hb).trans h3 (fun _ _ e => e) (fun _ _ e => e)⟩
  rw [hQ2] at hg
  exact ⟨hg.1, Nat.lt_of_lt_of_le hg.2 h3.size⟩
/-- As at the beginning of a law. -/
theorem TW.wide {w : World} {X : Nat → Prop} {vb mb : Nat} {ob : Option Nat} {rb : Nat} {od : Option Nat} {Lp Ld : List Tm} {wx : World} (h : TW w X vb mb ob rb od Lp Ld wx) : TV w (fun g => g < w.heap.size) X vb mb ob rb od Lp Ld wx :=
  ⟨h.vlt.mono fun g hg => ⟨hg.1, hg.2.1, fun hq => by have := hg.1; omega, hg.2.2⟩, h.rvl, fun g hg => Nat.lt_of_lt_of_le hg h.bel.size, fun g hg => hg, h.rx, h.bel⟩
end Go.Proofs.YtfmdmahlljbbmaaGreatDoor.vtc
