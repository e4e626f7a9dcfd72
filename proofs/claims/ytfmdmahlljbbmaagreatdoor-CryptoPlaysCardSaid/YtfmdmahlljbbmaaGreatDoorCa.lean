/- Terms of handles: the program's termsOf. -/
import Derived.Test.YtfmdmahlljbbmaaGreatDoorVta
import Derived.Test.YtfmdmahlljbbmaaGreatDoorVca
namespace Go.Proofs.YtfmdmahlljbbmaaGreatDoor.vtc
open Go.RowKit Go.Proofs.YtfmdmahlljbbmaaGreatDoor.tlvc Go.Proofs.YtfmdmahlljbbmaaGreatDoor.tmc
set_option linter.unusedVariables false
/-- A list of terms of the call's own that grows. -/
structure Rw (base n : Nat) (A : Option Addr) (c : Nat) (l : List Tm) (wx : World) : Prop where
  len : l.length = n
  row : ∃ cs, wx.ownsRow base 57 4 (.slice A n c) n cs ∧ Quads (fun g => base ≤ g ∧ some g ≠ (Value.slice A 0 0).ownBlock) wx l cs
theorem Rw.below {base n c : Nat} {A : Option Addr} {l : List Tm} {wx wy : World} (h : Rw base n A c l wx) (hb : Below wx.heap.size wx wy) : Rw base n A c l wy := by
  obtain ⟨cs, h1, h2⟩ := h.row
  exact ⟨h.len, cs, own_below h1 hb, h2.stays (stays_below hb _)⟩
theorem Rw.start {base : Nat} {wx : World} : Rw base 0 none 0 [] wx := ⟨rfl, [], World.ownsRow_nil _ _ _ _, rfl⟩
theorem Rw.far {base n c : Nat} {A : Option Addr} {l : List Tm} {wx : World} (h : Rw base n A c l wx) {g : Nat} (hg : wx.heap.size ≤ g) : some g ≠ (Value.slice A 0 0).ownBlock := fun e => by
  obtain ⟨cs, h1, _⟩ := h.row
  rw [← own_le A n c] at e
  have := (h1.lt g e.symm).2
  omega
theorem Rw.app {base n c : Nat} {A : Option Addr} {l : List Tm} {wx : World} (h : Rw base n A c l wx) (hz : base ≤ wx.heap.size) (hn : n ≤ 100000) {k : Tm} {n0 n1 n2 n3 : Value} (hk : TmC (fun g => base ≤ g ∧ some g ≠ (Value.slice A 0 0).ownBlock) wx k n0 n1 n2 n3)
    (g1 c1 : Nat) (T : TypeId) (fr : Nat × Nat) (hq : wx.heap[g1]? = some (.cells #[n0, n1, n2, n3] T fr)) :
    ∃ A' c' w', (Builtin.append_ #[22, 22] 22 #[.slice A n c, .slice (some ⟨g1, 0, none⟩) 1 c1]).run Tryz.prog wx = .ok (.slice A' (n + 1) c') w' ∧ Rw base (n + 1) A' c' (l ++ [k]) w' ∧ Below base wx w' := by
  obtain ⟨cs, hown, hqs⟩ := h.row
  obtain ⟨o0, o1, o2, o3⟩ := hk.one
  obtain ⟨v', w', hr, ho, hg, hob⟩ := app_terms wx base (.slice A n c) n cs hown ⟨g1, 0, none⟩ 1 c1 [n0, n1, n2, n3] rfl (fun u hu => by
    simp only [List.mem_cons, List.not_mem_nil, or_false] at hu
    rcases hu with rfl | rfl | rfl | rfl <;> assumption) (fun j u hu => by
    rw [Addr.add_lit, Nat.zero_add, Lib.cell_of_heap hq, ← hu]
    simp) (by omega) hz
  obtain ⟨A', c', rfl, _⟩ := own4_shape ho
  have hst : Stays (fun g => base ≤ g ∧ some g ≠ (Value.slice A 0 0).ownBlock) wx w' := ⟨hg.size, fun p hp hl => cell_same (hg.block _ hl (fun e => hp.2 (by rw [← own_le A n c]; exact e)))⟩
  have hS : ∀ g, (base ≤ g ∧ some g ≠ (Value.slice A 0 0).ownBlock) → g < wx.heap.size → (base ≤ g ∧ some g ≠ (Value.slice A' 0 0).ownBlock) := fun g hg hl => ⟨hg.1, fun e => by
    rw [← own_le A' (n + 1) c'] at e
    rcases hob with hs | ⟨g', hs, hge⟩
    · exact hg.2 (by rw [← own_le A n c, ← hs]; exact e)
    · rw [hs] at e; cases e; omega⟩
  exact ⟨A', c', w', hr, ⟨by rw [List.length_append, h.len]; rfl, cs ++ [n0, n1, n2, n3], ho, Quads.snoc (TmC.below2 hst hk hS) (Quads.below2 hst hS hqs)⟩, (Below.refl _ _).grown hg hz fun j hj => (hown.lt j hj).1⟩
/-- Terms, one behind the other, from a block's beginning on. -/
def TmsZ (B : Nat → Prop) (w : World) (A : Option Addr) (ks : List Tm) : Prop := 0 < ks.length → ∃ g, A = some ⟨g, 0, none⟩ ∧ g < w.heap.size ∧ B g ∧ KidsC B w g 0 ks
theorem TmsZ.below {B : Nat → Prop} {w w' : World} {A : Option Addr} {ks : List Tm} (h : TmsZ B w A ks) (hb : Below w.heap.size w w') : TmsZ B w' A ks := fun hk => by
  obtain ⟨g, e, hg, hB, hc⟩ := h hk
  exact ⟨g, e, Nat.lt_of_lt_of_le hg hb.size, hB, KidsC.below hb hg hB ks 0 hc⟩
theorem TmsZ.mono {B B' : Nat → Prop} {w : World} {A : Option Addr} {ks : List Tm} (h : TmsZ B w A ks) (hB : ∀ g, B g → B' g) : TmsZ B' w A ks := fun hk => by
  obtain ⟨g, e, hg, h1, hc⟩ := h hk
  exact ⟨g, e, hg, hB g h1, KidsC.mono hB ks 0 hc⟩
theorem Rw.tms {base n c : Nat} {A : Option Addr} {l : List Tm} {wx : World} (h : Rw base n A c l wx) : n ≤ c ∧ c ≤ maxLen ∧ TmsZ (fun g => base ≤ g) wx A l := by
  obtain ⟨cs, hown, hqs⟩ := h.row
  obtain ⟨A', c', e, h1, h2, h3⟩ := own4_shape hown
  cases e
  refine ⟨h1, h2, fun hpos => ?_⟩
  obtain ⟨g, rfl, hg1, hg2⟩ := h3 (by rw [← h.len]; exact hpos)
  refine ⟨g, rfl, hg2, hg1, KidsC.mono (fun g hg => hg.1) _ _ (Quads.kids (g := g) (off := 0) hqs fun j u hu => ?_)⟩
  have hj := (List.getElem?_eq_some_iff.1 hu).1
  rw [Nat.zero_add, hown.cellAt j (by rw [← hown.1]; exact hj)]
  exact hu
/-- What Term says of a handle. -/
theorem term_hand {S : Nat → Prop} {vb mb : Nat} {ob : Option Nat} {L : List Tm} (n : Int) (w : World) (hV : Vlt S w vb mb ob L) (hsz : ∀ x ∈ L, szT x ≤ 4096) :
    Calls Tryz.prog 54 #[.pointer (some ⟨vb, 0, none⟩), .int .i64 n] w (TermPost w ((hand L n).getD (.mk 0 0 [] [])) (hand L n).isSome) := by
  cases h : hand L n with
  | none => exact term_no S vb mb ob L n w hV (hand_none h)
  | some t =>
    obtain ⟨i, rfl, hi⟩ := hand_some h
    exact term_yes S vb mb ob L i t w hV hi (by have := hsz t (List.mem_of_getElem? hi); omega)
def HandsPost (w : World) (L : List Tm) (hs : List Int) (e : Ending) (w' : World) : Prop := Below w.heap.size w w' ∧ ((∃ ts A c, e = .returned (.tuple #[.slice A hs.length c, .bool true]) ∧ ts.length = hs.length ∧ (∀ j, j < hs.length → hand L (hs.getD j 0) = ts[j]?) ∧ hs.length ≤ c ∧ c ≤ maxLen ∧ TmsZ (fun g => w.heap.size ≤ g) w' A ts) ∨ (e = .returned (.tuple #[.slice none 0 0, .bool false]) ∧ ∃ j, j < hs.length ∧ hand L (hs.getD j 0) = none))
set_option maxRecDepth 100000 in
set_option maxHeartbeats 4000000 in
theorem termsOf_any (S : Nat → Prop) (vb mb : Nat) (ob : Option Nat) (L : List Tm) (A : Option Addr) (n c : Nat) (hs : List Int) (w : World) (hV : Vlt S w vb mb ob L) (hsz : ∀ x ∈ L, szT x ≤ 4096) (hi : Ins w A n hs) (hnc : n ≤ c) (hcm : c ≤ maxLen) (hn : n ≤ 1000) :
    Calls Tryz.prog 39 #[.pointer (some ⟨vb, 0, none⟩), .slice A n c] w (HandsPost w L hs) := by
  have h9 : c ≤ 9223372036854775807 := by unfold maxLen at hcm; omega
  have hlen := hi.1
  have HV := Lib.hid (And.intro hV hsz)
  have HI := Lib.hid hi
  have HL := Lib.hid hlen
  clear hV hsz hi hlen hcm
  go_enter Tryz.func39, Tryz.ntmps39
  go_wp2_with fail
  go_loopg [6, 15] (n + 1) (fun gk s6 s15 wx => ∃ (i : Nat) (R : Option Addr) (cr : Nat) (ts : List Tm), s6 = .slice R i cr ∧ s15 = .int .i64 i ∧ i ≤ n ∧ n - i < gk ∧ Hid (Rw w.heap.size i R cr ts wx ∧ (∀ j, j < i → hand L (hs.getD j 0) = ts[j]?) ∧ Below w.heap.size w wx))
  case atStart => exact ⟨0, none, 0, [], rfl, rfl, by omega, by omega, Lib.hid ⟨Rw.start, fun j hj => by omega, Below.refl _ _⟩⟩
  case round =>
    obtain ⟨i, R, cr, ts, rfl, rfl, hi, hgk, HR⟩ := hrel
    by_cases hlt : i < n
    · have hltz : (i : Int) < (n : Int) := by omega
      obtain ⟨gk', rfl⟩ : ∃ g', gk = g' + 1 := ⟨gk - 1, by omega⟩
      have HN := Lib.hid (And.intro (show i + 1 ≤ n from hlt) (show n - (i + 1) < gk' by omega))
      obtain ⟨b, off, rfl, hb, hc⟩ := HI.out.2.2 (by omega)
      have x0 := (HR.out.2.2.cell (p := ⟨b, off + i, none⟩) hb).trans (hc i hlt)
      obtain ⟨x, hx⟩ : ∃ x, hs.getD i 0 = x := ⟨_, rfl⟩
      rw [hx] at x0
      have hT := term_hand x wr (HV.out.1.below HR.out.2.2) HV.out.2
      have HX := Lib.hid hx
      clear hc hx hgk
      cases hh : hand L x with
      | none =>
        rw [hh] at hT
        have HT : Hid (Calls Tryz.prog 54 #[.pointer (some ⟨vb, 0, none⟩), .int .i64 x] wr (TermPost wr (.mk 0 0 [] []) false)) := Lib.hid hT
        have HH := Lib.hid hh
        clear hT hh
        go_wp2_with (go_at_call 54; refine HT.out.mono ?_; rintro e w1 ⟨v, rfl, ⟨y0, y1, y2, y3, rfl, hy⟩, hb1⟩; obtain ⟨o5, m5, A5, la5, ca5, K5, lk5, ck5, rfl, rfl, rfl, rfl⟩ := hy.shape; have HB1 := Lib.hid (HR.out.2.2.trans (hb1.mono HR.out.2.2.size)); clear hy hb1)
        have HE := Lib.hid (HB1.out.trans ((below_new w1 (.cells #[.int .i64 o5, .int .i64 m5, .slice A5 la5 ca5, .slice K5 lk5 ck5] 57)).mono HB1.out.size))
        go_ret2
        exact ⟨HE.out, .inr ⟨rfl, i, by rw [HL.out]; exact hlt, by rw [HX.out]; exact HH.out⟩⟩
      | some t =>
        rw [hh] at hT
        have HT : Hid (Calls Tryz.prog 54 #[.pointer (some ⟨vb, 0, none⟩), .int .i64 x] wr (TermPost wr t true)) := Lib.hid hT
        have HH := Lib.hid hh
        clear hT hh
        have HBE : Hid (∀ (w1 W2 : World) (c0 c1 c2 c3 : Value), Below wr.heap.size wr w1 → Below w1.heap.size w1 W2 → TmC (fun g => wr.heap.size ≤ g) w1 t c0 c1 c2 c3 → ∀ (g1 : Nat), W2.heap[g1]? = some (.cells #[c0, c1, c2, c3] 57) → ∃ A' c' w', (Builtin.append_ #[22, 22] 22 #[.slice R i cr, .slice (some ⟨g1, 0, none⟩) 1 1]).run Tryz.prog W2 = .ok (.slice A' (i + 1) c') w' ∧ Rw w.heap.size (i + 1) A' c' (ts ++ [t]) w' ∧ (∀ j, j < i + 1 → hand L (hs.getD j 0) = (ts ++ [t])[j]?) ∧ Below w.heap.size w w') := Lib.hid fun w1 W2 c0 c1 c2 c3 h1 h2 hy g1 hq => by
          have h12 := h1.trans (h2.mono h1.size)
          have hs := HR.out.2.2.size
          have hs2 := h12.size
          obtain ⟨A', c', w', k1, k2, k3⟩ := (HR.out.1.below h12).app (by omega) (by omega) (TmC.mono (fun g hg => ⟨by omega, HR.out.1.far hg⟩) _ _ _ _ _ (TmC.below h2 _ _ _ _ _ hy)) g1 1 _ _ hq
          refine ⟨A', c', w', k1, k2, fun j hj => ?_, (HR.out.2.2.trans (h12.mono hs)).trans k3⟩
          have hl := HR.out.1.len
          rcases Nat.lt_or_ge j i with h | h
          · rw [List.getElem?_append_left (by omega)]
            exact HR.out.2.1 j h
          · obtain rfl : j = i := by omega
            rw [HX.out, HH.out, List.getElem?_append_right (by omega), hl, Nat.sub_self]
            rfl
        go_wp2_with (first | (at_builtin; refine wpl_append rfl (.tmp 27) (.tmp 29) 22 rfl _ _ _ rfl rfl hrun ?_) | (go_at_call 54; refine HT.out.mono ?_; rintro e w1 ⟨v, rfl, ⟨y0, y1, y2, y3, rfl, hy⟩, hb1⟩; obtain ⟨o5, m5, A5, la5, ca5, K5, lk5, ck5, rfl, rfl, rfl, rfl⟩ := hy.shape; obtain ⟨b0, b1, b2, b3⟩ := boxT (Below.refl _ _) (heap_new_ w1 (.cells #[.int .i64 o5, .int .i64 m5, .slice A5 la5 ca5, .slice K5 lk5 ck5] 57)); obtain ⟨A', c', w', hrun, hrw⟩ := HBE.out w1 ((w1.alloc (.cells #[.int .i64 o5, .int .i64 m5, .slice A5 la5 ca5, .slice K5 lk5 ck5] 57)).alloc (.cells #[.int .i64 o5, .int .i64 m5, .slice A5 la5 ca5, .slice K5 lk5 ck5] 57)) _ _ _ _ hb1 ((below_new w1 (.cells #[.int .i64 o5, .int .i64 m5, .slice A5 la5 ca5, .slice K5 lk5 ck5] 57)).alloc (by simp) (.cells #[.int .i64 o5, .int .i64 m5, .slice A5 la5 ca5, .slice K5 lk5 ck5] 57)) hy (w1.heap.size + 1) (by have h := heap_new_ (w1.alloc (.cells #[.int .i64 o5, .int .i64 m5, .slice A5 la5 ca5, .slice K5 lk5 ck5] 57)) (.cells #[.int .i64 o5, .int .i64 m5, .slice A5 la5 ca5, .slice K5 lk5 ck5] 57); rwa [show (w1.alloc (.cells #[.int .i64 o5, .int .i64 m5, .slice A5 la5 ca5, .slice K5 lk5 ck5] 57)).heap.size = w1.heap.size + 1 by simp] at h); have HRW := Lib.hid hrw; clear hrw hy hb1))
        clear hrun b0 b1 b2 b3 x0 HBE HT
        go_wp2
        go_roundg gk'
        case measure => omega
        case rel => exact ⟨i + 1, A', c', ts ++ [t], rfl, by go_num, HN.out.1, HN.out.2, HRW⟩
    · obtain rfl : n = i := by omega
      have hltz : ¬ (n : Int) < (n : Int) := by omega
      obtain ⟨k1, k2, k3⟩ := HR.out.1.tms
      have hl := HR.out.1.len
      have HE := Lib.hid (And.intro k1 (And.intro k2 (And.intro k3 hl)))
      clear hgk k1 k2 k3 hl
      go_wp2
      go_ret2
      obtain ⟨k1, k2, k3, hl⟩ := HE.out
      refine ⟨HR.out.2.2, .inl ⟨ts, R, cr, by rw [HL.out]; rfl, by rw [HL.out]; exact hl, fun j hj => HR.out.2.1 j (by rw [← HL.out]; exact hj), by rw [HL.out]; exact k1, k2, k3⟩⟩
end Go.Proofs.YtfmdmahlljbbmaaGreatDoor.vtc
