/- The program's vault and the document's beside it. -/
import Derived.Test.YtfmdmahlljbbmaaGreatDoorVx
import Derived.Test.YtfmdmahlljbbmaaGreatDoorVy
import Derived.Test.YtfmdmahlljbbmaaGreatDoorVz
import Derived.Test.YtfmdmahlljbbmaaGreatDoorTj
namespace Go.Proofs.YtfmdmahlljbbmaaGreatDoor.vtc
open Go.RowKit Go.Proofs.YtfmdmahlljbbmaaGreatDoor.tlvc Go.Proofs.YtfmdmahlljbbmaaGreatDoor.tmc
set_option linter.unusedVariables false
theorem tms_below {w W : World} {A : Option Addr} {xs : List Tm} (h : Tms w A xs) (hb : Below w.heap.size w W) : Tms W A xs := fun hl => by
  obtain ⟨g, off, e, hg, hk⟩ := h hl
  exact ⟨g, off, e, Nat.lt_of_lt_of_le hg hb.size, KidsC.below hb hg trivial xs off hk⟩
/-- Both vaults; X: blocks that are none of theirs. -/
structure TW (w : World) (X : Nat → Prop) (vb mb : Nat) (ob : Option Nat) (rb : Nat) (od : Option Nat) (Lp Ld : List Tm) (wx : World) : Prop where
  vlt : Vlt (fun g => w.heap.size ≤ g ∧ ¬ MutR rb od g ∧ ¬ X g) wx vb mb ob Lp
  rvl : RVl (fun g => g < w.heap.size) wx rb od Ld
  rx : ∀ g, MutR rb od g → ¬ X g
  bel : Below w.heap.size w wx
section
variable {w : World} {X : Nat → Prop} {vb mb : Nat} {ob : Option Nat} {rb : Nat} {od : Option Nat} {Lp Ld : List Tm} {wx : World}
theorem TW.rlo (h : TW w X vb mb ob rb od Lp Ld wx) {g : Nat} (hg : MutR rb od g) : w.heap.size ≤ g := by
  rcases Nat.lt_or_ge g w.heap.size with hl | hl
  · exact absurd hg (h.rvl.free g hl)
  · exact hl
theorem TW.below (h : TW w X vb mb ob rb od Lp Ld wx) {wy : World} (hb : Below wx.heap.size wx wy) : TW w X vb mb ob rb od Lp Ld wy := ⟨h.vlt.below hb, h.rvl.below hb, h.rx, h.bel.trans (hb.mono h.bel.size)⟩
theorem TW.off (h : TW w X vb mb ob rb od Lp Ld wx) {wy : World} (hX : ∀ g, X g → w.heap.size ≤ g) (k : Off X wx wy) : TW w X vb mb ob rb od Lp Ld wy :=
  ⟨h.vlt.off k fun g _ hg => hg.2.2, h.rvl.off k fun g _ hg hx => hg.elim (fun hq => by have := hX g hx; omega) (fun hm => h.rx g hm hx), h.rx, h.bel.trans (k.below hX h.bel.size)⟩
theorem TW.fresh (h : TW w (fun _ => False) vb mb ob rb od Lp Ld wx) (Y : Nat → Prop) (hY : ∀ g, Y g → wx.heap.size ≤ g) {wy : World} (hb : Below wx.heap.size wx wy) : TW w Y vb mb ob rb od Lp Ld wy :=
  ⟨((h.vlt.bound).mono (fun g hg => ⟨hg.1.1, hg.1.2.1, fun hy => by have := hY g hy; have := hg.2; omega⟩)).below hb, h.rvl.below hb, fun g hm hy => by have := hY g hy; have := h.rvl.lt hm; omega, h.bel.trans (hb.mono h.bel.size)⟩
theorem TW.drop (h : TW w X vb mb ob rb od Lp Ld wx) : TW w (fun _ => False) vb mb ob rb od Lp Ld wx := ⟨h.vlt.mono fun g hg => ⟨hg.1, hg.2.1, id⟩, h.rvl, fun _ _ => id, h.bel⟩
theorem TW.intern (h : TW w X vb mb ob rb od Lp Ld wx) (hXb : ∀ g, X g → g < wx.heap.size) {B : Nat → Prop} {t : Tm} {v : Value} (hv : TmV B wx t v) (hB : ∀ g, B g → X g) (ht : txc.Tab w.heap.size w) (hsz : szT t ≤ 10000) :
    Calls Tryz.prog 29 #[.pointer (some ⟨vb, 0, none⟩), v] wx fun en w' => ∃ ob', en = .returned (.tuple #[.int .i64 (internV t Lp).1, .int .i64 (internV t Lp).2.1]) ∧ TW w X vb mb ob' rb od (internV t Lp).2.2 Ld w' ∧ wx.heap.size ≤ w'.heap.size ∧ ∀ g, X g → w'.heap[g]? = wx.heap[g]? := by
  refine (intern_any _ B w.heap.size vb mb ob Lp t v wx h.vlt hv (fun g hg hm => (h.vlt.all g hm).2.2 (hB g hg)) (ht.on h.bel) h.bel.size (fun g hg => (h.vlt.all g hg).1) hsz).mono ?_
  rintro en w' ⟨ob', rfl, h1, h2, h3⟩
  refine ⟨ob', rfl, ⟨h1.mono fun g hg => ?_, h.rvl.off h3 fun g hl hg hm => ?_, h.rx, h.bel.trans (h3.below (fun g hg => (h.vlt.all g hg).1) h.bel.size)⟩, h3.size, fun g hg => h3.block g (hXb g hg) (fun hm => (h.vlt.all g hm).2.2 hg)⟩
  · rcases hg with hg | hg
    · exact hg
    · exact ⟨Nat.le_trans h.bel.size hg, fun hm => by have := h.rvl.lt hm; omega, fun hx => by have := hXb g hx; omega⟩
  · have := h.vlt.all g hm
    rcases hg with hg | hg
    · omega
    · exact this.2.1 hg
theorem TW.rintern (h : TW w X vb mb ob rb od Lp Ld wx) (hXb : ∀ g, X g → g < wx.heap.size) {t : Tm} {v : Value} (hv : TmV (fun g => g < w.heap.size) wx t v) (hsz : szT t ≤ 10000) :
    Calls Tryz.prog 30 #[.pointer (some ⟨rb, 0, none⟩), v] wx fun en w' => ∃ od', en = .returned (.tuple #[.int .i64 (internV t Ld).1, .int .i64 (internV t Ld).2.1]) ∧ TW w X vb mb ob rb od' Lp (internV t Ld).2.2 w' ∧ wx.heap.size ≤ w'.heap.size ∧ ∀ g, X g → w'.heap[g]? = wx.heap[g]? := by
  refine (rintern_any (fun g => g < w.heap.size) _ rb od Ld t v wx h.rvl hv (fun g hg => hg) (fun g hg => Nat.lt_of_lt_of_le hg h.bel.size) hsz).mono ?_
  rintro en w' ⟨od', rfl, h1, h2, h3⟩
  have hod : ∀ g, g < wx.heap.size → MutR rb od' g → MutR rb od g := fun g hl hm => by
    rcases hm with e | e
    · exact .inl e
    · rcases h2 with e2 | ⟨b, e2, hb⟩
      · exact .inr (e2 ▸ e)
      · rw [e2] at e; cases e; omega
  refine ⟨od', rfl, ⟨((h.vlt.bound).off h3 fun g hl hg => hg.1.2.1).mono fun g hg => ⟨hg.1.1, fun hm => hg.1.2.1 (hod g hg.2 hm), hg.1.2.2⟩, h1, fun g hm hx => h.rx g (hod g (hXb g hx) hm) hx, h.bel.trans (h3.below (fun g hg => h.rlo hg) h.bel.size)⟩, h3.size, fun g hg => h3.block g (hXb g hg) (fun hm => h.rx g hm hg)⟩
end
/-- A byte of a slice of bytes turned. -/
theorem bys_set {w : World} {b off n : Nat} {xs : List Int} (h : Bys w (some ⟨b, off, none⟩) n xs) {k : Nat} (hk : k < n) (v : Int) (hv : 0 ≤ v ∧ v ≤ 255) : Bys (w.setCell ⟨b, off + k, none⟩ (.int .u8 v)) (some ⟨b, off, none⟩) n (xs.set k v) := by
  refine ⟨by rw [List.length_set]; exact h.1, fun x hx => ?_, fun hn => ?_⟩
  · rcases List.mem_or_eq_of_mem_set hx with hx | rfl
    · exact h.2.1 x hx
    · exact hv
  · obtain ⟨b', off', e, hb, hc⟩ := h.2.2 hn
    cases e
    refine ⟨b, off, rfl, by rw [set_size]; exact hb, fun j hj => ?_⟩
    by_cases hjk : j = k
    · subst hjk
      rw [World.cell?_setCell_same _ _ _ (hc j hj)]
      have hl := h.1
      rw [List.getD_eq_getElem?_getD, List.getElem?_set_self (by omega)]
      rfl
    · rw [World.cell?_setCell_other _ _ _ _ (by intro e; simp only [Addr.mk.injEq] at e; omega), hc j hj]
      rw [List.getD_eq_getElem?_getD, List.getD_eq_getElem?_getD, List.getElem?_set_ne (by omega)]
/-- The data that a law turns, in blocks of X; the box that leads to them. -/
structure OW (w : World) (X : Nat → Prop) (vb mb : Nat) (ob : Option Nat) (rb : Nat) (od : Option Nat) (Lp Ld : List Tm) (bx : Nat) (y0 y1 y3 : Value) (A : Option Addr) (la ca : Nat) (wx : World) : Prop where
  tw : TW w X vb mb ob rb od Lp Ld wx
  box : wx.heap[bx]? = some (.cells #[y0, y1, .slice A la ca, y3] 57)
  data : ∃ d, Bys wx A la d
  nf : NF wx A la
  inx : 0 < la → ∀ g off sp, A = some ⟨g, off, sp⟩ → X g ∧ g ≠ bx
  xlo : ∀ g, X g → w.heap.size ≤ g
section
variable {w : World} {X : Nat → Prop} {vb mb : Nat} {ob : Option Nat} {rb : Nat} {od : Option Nat} {Lp Ld : List Tm} {bx : Nat} {y0 y1 y3 : Value} {A : Option Addr} {la ca : Nat} {wx : World}
theorem OW.box4 (h : OW w X vb mb ob rb od Lp Ld bx y0 y1 y3 A la ca wx) : wx.cell? ⟨bx, 0, none⟩ = some y0 ∧ wx.cell? ⟨bx, 1, none⟩ = some y1 ∧ wx.cell? ⟨bx, 2, none⟩ = some (.slice A la ca) ∧ wx.cell? ⟨bx, 3, none⟩ = some y3 :=
  ⟨(Lib.cell_of_heap h.box _).trans rfl, (Lib.cell_of_heap h.box _).trans rfl, (Lib.cell_of_heap h.box _).trans rfl, (Lib.cell_of_heap h.box _).trans rfl⟩
theorem OW.byte (h : OW w X vb mb ob rb od Lp Ld bx y0 y1 y3 A la ca wx) {k : Nat} (hk : k < la) : ∃ b off x, A = some ⟨b, off, none⟩ ∧ wx.cell? ⟨b, off + k, none⟩ = some (.int .u8 x) ∧ (0 ≤ x ∧ x ≤ 255) ∧ wx.frozen? ⟨b, off + k, none⟩ = false ∧
    ∀ v, 0 ≤ v ∧ v ≤ 255 → OW w X vb mb ob rb od Lp Ld bx y0 y1 y3 A la ca (wx.setCell ⟨b, off + k, none⟩ (.int .u8 v)) := by
  obtain ⟨d, hd⟩ := h.data
  obtain ⟨b, off, rfl, hb, hc⟩ := hd.2.2 (by omega)
  obtain ⟨hX, hne⟩ := h.inx (by omega) _ _ _ rfl
  refine ⟨b, off, d.getD k 0, rfl, hc k hk, hd.2.1.getD k, h.nf (by omega) _ _ _ rfl _, fun v hv => ⟨h.tw.off h.xlo (Off.set wx b (off + k) (.int .u8 v) hX), (set_heap_other _ _ _ _ _ (fun e => hne e.symm)).trans h.box, ⟨_, bys_set hd hk v hv⟩, fun hl g o sp e j => ?_, h.inx, h.xlo⟩⟩
  cases e
  have h2 := h.nf hl _ _ _ rfl j
  unfold World.frozen? at h2 ⊢
  obtain ⟨cs, T, fr, hq⟩ : ∃ cs T fr, wx.heap[b]? = some (.cells cs T fr) := by
    have := hc k hk
    unfold World.cell? at this
    split at this
    · rename_i c T fr hq
      exact ⟨c, T, fr, hq⟩
    · cases this
  rw [hq] at h2
  rw [set_heap _ _ _ _ _ _ _ hq]
  exact h2
end
/-- Both are empty. -/
theorem TW.start {w wv : World} {vb mb : Nat} (hb : Below w.heap.size w wv) (hV : Vlt (fun g => w.heap.size ≤ g) wv vb mb none []) : TW w (fun _ => False) vb mb none wv.heap.size none [] [] (wv.alloc (.cells #[.slice none 0 0] 51)) := by
  have hal : Below wv.heap.size wv (wv.alloc (.cells #[.slice none 0 0] 51)) := below_new _ _
  have h1 : ∀ g, (w.heap.size ≤ g ∧ g < wv.heap.size) → ¬ MutR wv.heap.size none g := fun g hg hm => by
    rcases hm with e | e
    · omega
    · cases e
  have h2 : ∀ g, g < w.heap.size → ¬ MutR wv.heap.size none g := fun g hg hm => by
    rcases hm with e | e
    · have := hb.size; omega
    · cases e
  exact ⟨((hV.bound).mono fun g hg => ⟨hg.1, h1 g hg, id⟩).below hal, ⟨⟨none, 0, [], heap_new_ _ _, World.ownsRow_nil _ _ _ _, rfl, rfl⟩, (fun e => by cases e), h2, by simp⟩, fun _ _ => id, hb.trans (hal.mono hb.size)⟩
theorem nf_zero {B : Nat → Prop} {w : World} {v : Value} (h : TmV B w (.mk 0 0 [] []) v) : NFv w v := fun c0 c1 A la ca c3 e hl => by
  obtain ⟨y0, y1, y2, y3, e2, hy⟩ := h
  rw [e] at e2
  have e3 := congrArg Array.toList (Value.agg.inj e2)
  simp only [List.cons.injEq] at e3
  obtain ⟨_, _, e4, _⟩ := e3
  subst e4
  unfold TmC at hy
  obtain ⟨_, _, _, _, ⟨A', la', ca', e5, _, _, h3, _⟩, _⟩ := hy
  cases e5
  have := h3.1
  simp at this
  omega
/-- What both answer for a number. -/
theorem both_terms {S Q : Nat → Prop} {vb mb : Nat} {ob : Option Nat} {rb : Nat} {od : Option Nat} {L : List Tm} (n : Int) (hs : ∀ t ∈ L, szT t ≤ 100000) : ∃ T is, (∀ W, Vlt S W vb mb ob L → Calls Tryz.prog 54 #[.pointer (some ⟨vb, 0, none⟩), .int .i64 n] W (TermPostF W T is)) ∧ (∀ W, RVl Q W rb od L → (∀ g, Q g → g < W.heap.size) → Calls Tryz.prog 37 #[.pointer (some ⟨rb, 0, none⟩), .int .i64 n] W (RTermPost Q W T is)) := by
  by_cases h : n < 0 ∨ (L.length : Int) ≤ n
  · refine ⟨_, _, fun W hV => (term_no S vb mb ob L n W hV h).mono fun e w' ⟨v, h1, h2, h3⟩ => ⟨v, h1, h2, h3, nf_zero h2⟩, fun W hV hQ => rterm_no Q rb od L n W hV h⟩
  · obtain ⟨k, rfl⟩ : ∃ k : Nat, n = (k : Int) := ⟨n.toNat, by omega⟩
    have hk : k < L.length := by omega
    have e := List.getElem?_eq_getElem hk
    exact ⟨L[k], true, fun W hV => term_nf S vb mb ob L k _ W hV e (hs _ (List.getElem_mem hk)), fun W hV hQ => rterm_yes Q rb od L k _ W hV hQ e⟩
theorem stays_lo {w a b : World} (h1 : Below w.heap.size w a) (h2 : Below w.heap.size w b) (hs : a.heap.size ≤ b.heap.size) : Stays (fun g => g < w.heap.size) a b :=
  ⟨hs, fun p hp _ => cell_same ((h2.block p.block hp).trans (h1.block p.block hp).symm)⟩
/-- A copy of the law's own, ready to be turned. -/
theorem OW.start {w : World} {X : Nat → Prop} {vb mb : Nat} {ob : Option Nat} {rb : Nat} {od : Option Nat} {Lp Ld : List Tm} {lo bx : Nat} {o m : Int} {A K : Option Addr} {la ca lk ck : Nat} {t : Tm} {wc W5 wx : World} (h : TW w X vb mb ob rb od Lp Ld wx) (hX : X = fun g => lo ≤ g ∧ g < W5.heap.size) (hlo : w.heap.size ≤ lo)
    (hy : TmC (fun g => lo ≤ g) wc t (.int .i64 o) (.int .i64 m) (.slice A la ca) (.slice K lk ck)) (hnf : NF wc A la) (hb : Below wc.heap.size wc W5) (hbx : bx = wc.heap.size) (hlb : lo ≤ wc.heap.size) (hpb : W5.heap[bx]? = some (.cells #[.int .i64 o, .int .i64 m, .slice A la ca, .slice K lk ck] 57))
    (hs : W5.heap.size ≤ wx.heap.size) (hk : ∀ g, X g → wx.heap[g]? = W5.heap[g]?) : OW w X vb mb ob rb od Lp Ld bx (.int .i64 o) (.int .i64 m) (.slice K lk ck) A la ca wx := by
  obtain ⟨d, hd, _, _, hB⟩ := data_of hy
  have hlt : ∀ g off sp, 0 < la → A = some ⟨g, off, sp⟩ → g < wc.heap.size := fun g off sp hl e => by
    obtain ⟨b', off', e', hb', _⟩ := hd.2.2 hl
    rw [e'] at e; cases e; exact hb'
  have hXb : X bx := by rw [hX]; exact ⟨by omega, (Array.getElem?_eq_some_iff.1 hpb).1⟩
  have hXA : 0 < la → ∀ g off sp, A = some ⟨g, off, sp⟩ → X g := fun hl g off sp e => by rw [hX]; exact ⟨hB hl g off sp e, Nat.lt_of_lt_of_le (hlt g off sp hl e) hb.size⟩
  have hd5 := hd.below hb
  have hn5 : NF W5 A la := hnf.keep hd fun _ g _ _ _ hg => hb.block g hg
  exact ⟨h, (hk bx hXb).trans hpb, ⟨d, bys_stays (B := X) ⟨hs, fun p hp _ => cell_same (hk p.block hp)⟩ hd5 hXA⟩, hn5.keep hd5 fun hl g off sp e _ => hk g (hXA hl g off sp e), fun hl g off sp e => ⟨hXA hl g off sp e, by have := hlt g off sp hl e; omega⟩, fun g hg => by rw [hX] at hg; omega⟩
end Go.Proofs.YtfmdmahlljbbmaaGreatDoor.vtc
