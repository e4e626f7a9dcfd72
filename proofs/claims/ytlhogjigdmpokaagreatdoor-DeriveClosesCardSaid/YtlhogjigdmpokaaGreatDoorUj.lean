/- Terms of handles: the program's termsOf. How terms are made of the terms of handles: the program's closures, and made. What is done with keys: the program's closures. What is done with keys: the program's calls that answer a handle. What is done with keys: the program's Open and Verify. -/
import Derived.Test.YtlhogjigdmpokaaGreatDoorUi
import Derived.Test.YtlhogjigdmpokaaGreatDoorUg
import Derived.Test.YtlhogjigdmpokaaGreatDoorTf
import Derived.Deep.RegionLaw
import Derived.StillTailTactics
import Derived.Lib.QuietBelow
import Derived.BigQuiet
namespace Go.Proofs.YtlhogjigdmpokaaGreatDoor.vtc
open Go.RowKit Go.Proofs.YtlhogjigdmpokaaGreatDoor.tlvc Go.Proofs.YtlhogjigdmpokaaGreatDoor.tmc
set_option linter.unusedVariables false
/-- A list of terms of the call's own that grows. -/
structure Rw (base n : Nat) (A : Option Addr) (c : Nat) (l : List Tm) (wx : World) : Prop where
  len : l.length = n
  row : ∃ cs, wx.ownsRow base 43 4 (.slice A n c) n cs ∧ Quads (fun g => base ≤ g ∧ some g ≠ (Value.slice A 0 0).ownBlock) wx l cs
theorem Rw.below {base n c : Nat} {A : Option Addr} {l : List Tm} {wx wy : World} (h : Rw base n A c l wx) (hb : Below wx.heap.size wx wy) : Rw base n A c l wy := by
  obtain ⟨cs, h1, h2⟩ := h.row
  exact ⟨h.len, cs, own_below h1 hb, h2.stays (stays_below hb _)⟩
theorem Rw.start {base : Nat} {wx : World} : Rw base 0 none 0 [] wx := ⟨rfl, [], World.ownsRow_nil _ _ _ _, rfl⟩
theorem Rw.far {base n c : Nat} {A : Option Addr} {l : List Tm} {wx : World} (h : Rw base n A c l wx) {g : Nat} (hg : wx.heap.size ≤ g) : some g ≠ (Value.slice A 0 0).ownBlock := fun e => by
  obtain ⟨cs, h1, _⟩ := h.row
  rw [← own_le A n c] at e
  have := (h1.lt g e.symm).2
  omega
theorem Rw.app {base n c : Nat} {A : Option Addr} {l : List Tm} {wx : World} (h : Rw base n A c l wx) (hz : base ≤ wx.heap.size) (hn : n ≤ 100000) {k : Tm} {n0 n1 n2 n3 : Value} (hk : TmC (fun g => base ≤ g ∧ some g ≠ (Value.slice A 0 0).ownBlock) wx k n0 n1 n2 n3)
    (g1 c1 : Nat) (T : TypeId) (fr : Nat × Nat) (hq : wx.heap[g1]? = some (.cells #[n0, n1, n2, n3] T fr)) :
    ∃ A' c' w', (Builtin.append_ #[22, 22] 22 #[.slice A n c, .slice (some ⟨g1, 0, none⟩) 1 c1]).run Tryz.prog wx = .ok (.slice A' (n + 1) c') w' ∧ Rw base (n + 1) A' c' (l ++ [k]) w' ∧ Below base wx w' := by
  obtain ⟨cs, hown, hqs⟩ := h.row
  obtain ⟨o0, o1, o2, o3⟩ := hk.one
  obtain ⟨v', w', hr, ho, hg, hob⟩ := app_terms wx base (.slice A n c) n cs hown ⟨g1, 0, none⟩ 1 c1 [n0, n1, n2, n3] rfl (fun u hu => by
    simp only [List.mem_cons, List.not_mem_nil, or_false] at hu
    rcases hu with rfl | rfl | rfl | rfl <;> assumption) (fun j u hu => by
    rw [Addr.add_lit, Nat.zero_add, Lib.cell_of_heap hq, ← hu]
    simp) (by omega) hz
  obtain ⟨A', c', rfl, _⟩ := own4_shape ho
  have hst : Stays (fun g => base ≤ g ∧ some g ≠ (Value.slice A 0 0).ownBlock) wx w' := ⟨hg.size, fun p hp hl => cell_same (hg.block _ hl (fun e => hp.2 (by rw [← own_le A n c]; exact e)))⟩
  have hS : ∀ g, (base ≤ g ∧ some g ≠ (Value.slice A 0 0).ownBlock) → g < wx.heap.size → (base ≤ g ∧ some g ≠ (Value.slice A' 0 0).ownBlock) := fun g hg hl => ⟨hg.1, fun e => by
    rw [← own_le A' (n + 1) c'] at e
    rcases hob with hs | ⟨g', hs, hge⟩
    · exact hg.2 (by rw [← own_le A n c, ← hs]; exact e)
    · rw [hs] at e; cases e; omega⟩
  exact ⟨A', c', w', hr, ⟨by rw [List.length_append, h.len]; rfl, cs ++ [n0, n1, n2, n3], ho, Quads.snoc (TmC.below2 hst hk hS) (Quads.below2 hst hS hqs)⟩, (Below.refl _ _).grown hg hz fun j hj => (hown.lt j hj).1⟩
/-- Terms, one behind the other, from a block's beginning on. -/
def TmsZ (B : Nat → Prop) (w : World) (A : Option Addr) (ks : List Tm) : Prop := 0 < ks.length → ∃ g, A = some ⟨g, 0, none⟩ ∧ g < w.heap.size ∧ B g ∧ KidsC B w g 0 ks
theorem TmsZ.below {B : Nat → Prop} {w w' : World} {A : Option Addr} {ks : List Tm} (h : TmsZ B w A ks) (hb : Below w.heap.size w w') : TmsZ B w' A ks := fun hk => by
  obtain ⟨g, e, hg, hB, hc⟩ := h hk
  exact ⟨g, e, Nat.lt_of_lt_of_le hg hb.size, hB, KidsC.below hb hg hB ks 0 hc⟩
theorem TmsZ.mono {B B' : Nat → Prop} {w : World} {A : Option Addr} {ks : List Tm} (h : TmsZ B w A ks) (hB : ∀ g, B g → B' g) : TmsZ B' w A ks := fun hk => by
  obtain ⟨g, e, hg, h1, hc⟩ := h hk
  exact ⟨g, e, hg, hB g h1, KidsC.mono hB ks 0 hc⟩
theorem Rw.tms {base n c : Nat} {A : Option Addr} {l : List Tm} {wx : World} (h : Rw base n A c l wx) : n ≤ c ∧ c ≤ maxLen ∧ TmsZ (fun g => base ≤ g) wx A l := by
  obtain ⟨cs, hown, hqs⟩ := h.row
  obtain ⟨A', c', e, h1, h2, h3⟩ := own4_shape hown
  cases e
  refine ⟨h1, h2, fun hpos => ?_⟩
  obtain ⟨g, rfl, hg1, hg2⟩ := h3 (by rw [← h.len]; exact hpos)
  refine ⟨g, rfl, hg2, hg1, KidsC.mono (fun g hg => hg.1) _ _ (Quads.kids (g := g) (off := 0) hqs fun j u hu => ?_)⟩
  have hj := (List.getElem?_eq_some_iff.1 hu).1
  rw [Nat.zero_add, hown.cellAt j (by rw [← hown.1]; exact hj)]
  exact hu
/-- What Term says of a handle. -/
theorem term_hand {S : Nat → Prop} {vb mb : Nat} {ob : Option Nat} {L : List Tm} (n : Int) (w : World) (hV : Vlt S w vb mb ob L) (hsz : ∀ x ∈ L, szT x ≤ 4096) :
    Calls Tryz.prog 18 #[.pointer (some ⟨vb, 0, none⟩), .int .i64 n] w (TermPost w ((hand L n).getD (.mk 0 0 [] [])) (hand L n).isSome) := by
  cases h : hand L n with
  | none => exact term_no S vb mb ob L n w hV (hand_none h)
  | some t =>
    obtain ⟨i, rfl, hi⟩ := hand_some h
    exact term_yes S vb mb ob L i t w hV hi (by have := hsz t (List.mem_of_getElem? hi); omega)
def HandsPost (w : World) (L : List Tm) (hs : List Int) (e : Ending) (w' : World) : Prop := Below w.heap.size w w' ∧ ((∃ ts A c, e = .returned (.tuple #[.slice A hs.length c, .bool true]) ∧ ts.length = hs.length ∧ (∀ j, j < hs.length → hand L (hs.getD j 0) = ts[j]?) ∧ hs.length ≤ c ∧ c ≤ maxLen ∧ TmsZ (fun g => w.heap.size ≤ g) w' A ts) ∨ (e = .returned (.tuple #[.slice none 0 0, .bool false]) ∧ ∃ j, j < hs.length ∧ hand L (hs.getD j 0) = none))
set_option maxRecDepth 100000 in
set_option maxHeartbeats 4000000 in
theorem termsOf_any (S : Nat → Prop) (vb mb : Nat) (ob : Option Nat) (L : List Tm) (A : Option Addr) (n c : Nat) (hs : List Int) (w : World) (hV : Vlt S w vb mb ob L) (hsz : ∀ x ∈ L, szT x ≤ 4096) (hi : Ins w A n hs) (hnc : n ≤ c) (hcm : c ≤ maxLen) (hn : n ≤ 1000) :
    Calls Tryz.prog 71 #[.pointer (some ⟨vb, 0, none⟩), .slice A n c] w (HandsPost w L hs) := by
  have h9 : c ≤ 9223372036854775807 := by unfold maxLen at hcm; omega
  have hlen := hi.1
  have HV := Lib.hid (And.intro hV hsz)
  have HI := Lib.hid hi
  have HL := Lib.hid hlen
  clear hV hsz hi hlen hcm
  go_enter Tryz.func71, Tryz.ntmps71
  go_wp2_with fail
  go_loopg [6, 15] (n + 1) (fun gk s6 s15 wx => ∃ (i : Nat) (R : Option Addr) (cr : Nat) (ts : List Tm), s6 = .slice R i cr ∧ s15 = .int .i64 i ∧ i ≤ n ∧ n - i < gk ∧ Hid (Rw w.heap.size i R cr ts wx ∧ (∀ j, j < i → hand L (hs.getD j 0) = ts[j]?) ∧ Below w.heap.size w wx))
  case atStart => exact ⟨0, none, 0, [], rfl, rfl, by omega, by omega, Lib.hid ⟨Rw.start, fun j hj => by omega, Below.refl _ _⟩⟩
  case round =>
    obtain ⟨i, R, cr, ts, rfl, rfl, hi, hgk, HR⟩ := hrel
    by_cases hlt : i < n
    · have hltz : (i : Int) < (n : Int) := by omega
      obtain ⟨gk', rfl⟩ : ∃ g', gk = g' + 1 := ⟨gk - 1, by omega⟩
      have HN := Lib.hid (And.intro (show i + 1 ≤ n from hlt) (show n - (i + 1) < gk' by omega))
      obtain ⟨b, off, rfl, hb, hc⟩ := HI.out.2.2 (by omega)
      have x0 := (HR.out.2.2.cell (p := ⟨b, off + i, none⟩) hb).trans (hc i hlt)
      obtain ⟨x, hx⟩ : ∃ x, hs.getD i 0 = x := ⟨_, rfl⟩
      rw [hx] at x0
      have hT := term_hand x wr (HV.out.1.below HR.out.2.2) HV.out.2
      have HX := Lib.hid hx
      clear hc hx hgk
      cases hh : hand L x with
      | none =>
        rw [hh] at hT
        have HT : Hid (Calls Tryz.prog 18 #[.pointer (some ⟨vb, 0, none⟩), .int .i64 x] wr (TermPost wr (.mk 0 0 [] []) false)) := Lib.hid hT
        have HH := Lib.hid hh
        clear hT hh
        go_wp2_with (go_at_call 18; refine HT.out.mono ?_; rintro e w1 ⟨v, rfl, ⟨y0, y1, y2, y3, rfl, hy⟩, hb1⟩; obtain ⟨o5, m5, A5, la5, ca5, K5, lk5, ck5, rfl, rfl, rfl, rfl⟩ := hy.shape; have HB1 := Lib.hid (HR.out.2.2.trans (hb1.mono HR.out.2.2.size)); clear hy hb1)
        have HE := Lib.hid (HB1.out.trans ((below_new w1 (.cells #[.int .i64 o5, .int .i64 m5, .slice A5 la5 ca5, .slice K5 lk5 ck5] 43)).mono HB1.out.size))
        go_ret2
        exact ⟨HE.out, .inr ⟨rfl, i, by rw [HL.out]; exact hlt, by rw [HX.out]; exact HH.out⟩⟩
      | some t =>
        rw [hh] at hT
        have HT : Hid (Calls Tryz.prog 18 #[.pointer (some ⟨vb, 0, none⟩), .int .i64 x] wr (TermPost wr t true)) := Lib.hid hT
        have HH := Lib.hid hh
        clear hT hh
        have HBE : Hid (∀ (w1 W2 : World) (c0 c1 c2 c3 : Value), Below wr.heap.size wr w1 → Below w1.heap.size w1 W2 → TmC (fun g => wr.heap.size ≤ g) w1 t c0 c1 c2 c3 → ∀ (g1 : Nat), W2.heap[g1]? = some (.cells #[c0, c1, c2, c3] 43) → ∃ A' c' w', (Builtin.append_ #[22, 22] 22 #[.slice R i cr, .slice (some ⟨g1, 0, none⟩) 1 1]).run Tryz.prog W2 = .ok (.slice A' (i + 1) c') w' ∧ Rw w.heap.size (i + 1) A' c' (ts ++ [t]) w' ∧ (∀ j, j < i + 1 → hand L (hs.getD j 0) = (ts ++ [t])[j]?) ∧ Below w.heap.size w w') := Lib.hid fun w1 W2 c0 c1 c2 c3 h1 h2 hy g1 hq => by
          have h12 := h1.trans (h2.mono h1.size)
          have hs := HR.out.2.2.size
          have hs2 := h12.size
          obtain ⟨A', c', w', k1, k2, k3⟩ := (HR.out.1.below h12).app (by omega) (by omega) (TmC.mono (fun g hg => ⟨by omega, HR.out.1.far hg⟩) _ _ _ _ _ (TmC.below h2 _ _ _ _ _ hy)) g1 1 _ _ hq
          refine ⟨A', c', w', k1, k2, fun j hj => ?_, (HR.out.2.2.trans (h12.mono hs)).trans k3⟩
          have hl := HR.out.1.len
          rcases Nat.lt_or_ge j i with h | h
          · rw [List.getElem?_append_left (by omega)]
            exact HR.out.2.1 j h
          · obtain rfl : j = i := by omega
            rw [HX.out, HH.out, List.getElem?_append_right (by omega), hl, Nat.sub_self]
            rfl
        go_wp2_with (first | (at_builtin; refine wpl_append rfl (.tmp 27) (.tmp 29) 22 rfl _ _ _ rfl rfl hrun ?_) | (go_at_call 18; refine HT.out.mono ?_; rintro e w1 ⟨v, rfl, ⟨y0, y1, y2, y3, rfl, hy⟩, hb1⟩; obtain ⟨o5, m5, A5, la5, ca5, K5, lk5, ck5, rfl, rfl, rfl, rfl⟩ := hy.shape; obtain ⟨b0, b1, b2, b3⟩ := boxT (Below.refl _ _) (heap_new_ w1 (.cells #[.int .i64 o5, .int .i64 m5, .slice A5 la5 ca5, .slice K5 lk5 ck5] 43)); obtain ⟨A', c', w', hrun, hrw⟩ := HBE.out w1 ((w1.alloc (.cells #[.int .i64 o5, .int .i64 m5, .slice A5 la5 ca5, .slice K5 lk5 ck5] 43)).alloc (.cells #[.int .i64 o5, .int .i64 m5, .slice A5 la5 ca5, .slice K5 lk5 ck5] 43)) _ _ _ _ hb1 ((below_new w1 (.cells #[.int .i64 o5, .int .i64 m5, .slice A5 la5 ca5, .slice K5 lk5 ck5] 43)).alloc (by simp) (.cells #[.int .i64 o5, .int .i64 m5, .slice A5 la5 ca5, .slice K5 lk5 ck5] 43)) hy (w1.heap.size + 1) (by have h := heap_new_ (w1.alloc (.cells #[.int .i64 o5, .int .i64 m5, .slice A5 la5 ca5, .slice K5 lk5 ck5] 43)) (.cells #[.int .i64 o5, .int .i64 m5, .slice A5 la5 ca5, .slice K5 lk5 ck5] 43); rwa [show (w1.alloc (.cells #[.int .i64 o5, .int .i64 m5, .slice A5 la5 ca5, .slice K5 lk5 ck5] 43)).heap.size = w1.heap.size + 1 by simp] at h); have HRW := Lib.hid hrw; clear hrw hy hb1))
        clear hrun b0 b1 b2 b3 x0 HBE HT
        go_wp2
        go_roundg gk'
        case measure => omega
        case rel => exact ⟨i + 1, A', c', ts ++ [t], rfl, by go_num, HN.out.1, HN.out.2, HRW⟩
    · obtain rfl : n = i := by omega
      have hltz : ¬ (n : Int) < (n : Int) := by omega
      obtain ⟨k1, k2, k3⟩ := HR.out.1.tms
      have hl := HR.out.1.len
      have HE := Lib.hid (And.intro k1 (And.intro k2 (And.intro k3 hl)))
      clear hgk k1 k2 k3 hl
      go_wp2
      go_ret2
      obtain ⟨k1, k2, k3, hl⟩ := HE.out
      refine ⟨HR.out.2.2, .inl ⟨ts, R, cr, by rw [HL.out]; rfl, by rw [HL.out]; exact hl, fun j hj => HR.out.2.1 j (by rw [← HL.out]; exact hj), by rw [HL.out]; exact k1, k2, k3⟩⟩
end Go.Proofs.YtlhogjigdmpokaaGreatDoor.vtc
namespace Go.Proofs.YtlhogjigdmpokaaGreatDoor.vtc
open Go.RowKit Go.Proofs.YtlhogjigdmpokaaGreatDoor.tlvc Go.Proofs.YtlhogjigdmpokaaGreatDoor.tmc
set_option linter.unusedVariables false
/-- The terms of handles. -/
def handsF (L : List Tm) : List Int → Option (List Tm)
  | [] => some []
  | n :: ns => match hand L n, handsF L ns with
    | some t, some ts => some (t :: ts)
    | _, _ => none
theorem handsF_some {L : List Tm} : ∀ {hs : List Int} {ts : List Tm}, ts.length = hs.length → (∀ j, j < hs.length → hand L (hs.getD j 0) = ts[j]?) → handsF L hs = some ts
  | [], [], _, _ => rfl
  | [], _ :: _, h, _ => by simp at h
  | _ :: _, [], h, _ => by simp at h
  | n :: ns, t :: ts, hl, h => by
    have h0 : hand L n = some t := h 0 (by simp)
    have h1 := handsF_some (hs := ns) (ts := ts) (by simpa using hl) (fun j hj => by have := h (j + 1) (by simpa using hj); simpa using this)
    unfold handsF
    rw [h0, h1]
theorem handsF_none {L : List Tm} : ∀ {hs : List Int} {j : Nat}, j < hs.length → hand L (hs.getD j 0) = none → handsF L hs = none
  | n :: ns, 0, _, h => by
    have h : hand L n = none := h
    unfold handsF
    rw [h]
  | n :: ns, j + 1, hj, h => by
    have h1 := handsF_none (hs := ns) (j := j) (by simpa using hj) (by simpa using h)
    unfold handsF
    rw [h1]
    cases hand L n <;> rfl
theorem handsF_nil (L : List Tm) : handsF L [] = some [] := rfl
theorem handsF_one (L : List Tm) (n : Int) : handsF L [n] = (hand L n).map fun t => [t] := by
  unfold handsF
  rw [handsF_nil]
  cases hand L n <;> rfl
theorem handsF_two (L : List Tm) (a b : Int) : handsF L [a, b] = (match hand L a, hand L b with | some s, some t => some [s, t] | _, _ => none) := by
  unfold handsF
  rw [handsF_one]
  cases hand L a <;> cases hand L b <;> rfl
section
variable {S : Nat → Prop} {vb mb : Nat} {ob : Option Nat} {L : List Tm} {A : Option Addr} {n c : Nat} {hs : List Int} {w : World}
theorem termsOf_some (hV : Vlt S w vb mb ob L) (hsz : ∀ x ∈ L, szT x ≤ 4096) (hi : Ins w A n hs) (hnc : n ≤ c) (hcm : c ≤ maxLen) (hn : n ≤ 1000) {ts : List Tm} (hh : handsF L hs = some ts) :
    Calls Tryz.prog 71 #[.pointer (some ⟨vb, 0, none⟩), .slice A n c] w fun e w' => ∃ A' c', e = .returned (.tuple #[.slice A' n c', .bool true]) ∧ ts.length = n ∧ n ≤ c' ∧ c' ≤ maxLen ∧ TmsZ (fun g => w.heap.size ≤ g) w' A' ts ∧ Below w.heap.size w w' := by
  refine (termsOf_any S vb mb ob L A n c hs w hV hsz hi hnc hcm hn).mono ?_
  rintro e w' ⟨hb, ⟨ts', A', c', rfl, h1, h2, h3, h4, h5⟩ | ⟨rfl, j, hj, h1⟩⟩
  · have e := handsF_some h1 h2
    rw [hh] at e
    cases e
    rw [hi.1] at h3 ⊢
    exact ⟨A', c', rfl, h1.trans hi.1, h3, h4, h5, hb⟩
  · rw [handsF_none hj h1] at hh
    cases hh
theorem termsOf_none (hV : Vlt S w vb mb ob L) (hsz : ∀ x ∈ L, szT x ≤ 4096) (hi : Ins w A n hs) (hnc : n ≤ c) (hcm : c ≤ maxLen) (hn : n ≤ 1000) (hh : handsF L hs = none) :
    Calls Tryz.prog 71 #[.pointer (some ⟨vb, 0, none⟩), .slice A n c] w fun e w' => e = .returned (.tuple #[.slice none 0 0, .bool false]) ∧ Below w.heap.size w w' := by
  refine (termsOf_any S vb mb ob L A n c hs w hV hsz hi hnc hcm hn).mono ?_
  rintro e w' ⟨hb, ⟨ts', A', c', rfl, h1, h2, h3, h4, h5⟩ | ⟨rfl, j, hj, h1⟩⟩
  · rw [handsF_some h1 h2] at hh
    cases hh
  · exact ⟨rfl, hb⟩
end
theorem termsOf_nil (A : Option Addr) (n c : Nat) (w : World) : Calls Tryz.prog 71 #[.pointer none, .slice A n c] w fun e w' => e = .returned (.tuple #[.slice none 0 0, .bool false]) ∧ w' = w := by
  go_enter Tryz.func71, Tryz.ntmps71
  go_wp2
  go_ret2
  exact ⟨rfl, rfl⟩
/-- A term that a closure makes, or none. -/
def HowPost (Q : Nat → Prop) (W : World) (r : Option Tm) (e : Ending) (w' : World) : Prop := ∃ v, e = .returned (.tuple #[v, .bool r.isSome]) ∧ TmV Q w' (r.getD (.mk 0 0 [] [])) v ∧ Below W.heap.size W w'
def madeF (L : List Tm) (hs : List Int) (T : List Tm → Option Tm) : Int × Int × List Tm := match handsF L hs with
  | none => (-1, 71, L)
  | some ts => match T ts with
    | none => (-1, 72, L)
    | some t => internV t L
theorem made_none {L : List Tm} {hs : List Int} {T : List Tm → Option Tm} (h : handsF L hs = none) : madeF L hs T = (-1, 71, L) := by unfold madeF; rw [h]
theorem made_kind {L : List Tm} {hs : List Int} {T : List Tm → Option Tm} {ts : List Tm} (h : handsF L hs = some ts) (k : T ts = none) : madeF L hs T = (-1, 72, L) := by
  unfold madeF
  rw [h]
  show (match T ts with | none => (-1, 72, L) | some t => internV t L) = _
  rw [k]
theorem made_some {L : List Tm} {hs : List Int} {T : List Tm → Option Tm} {ts : List Tm} {t : Tm} (h : handsF L hs = some ts) (k : T ts = some t) : madeF L hs T = internV t L := by
  unfold madeF
  rw [h]
  show (match T ts with | none => (-1, 72, L) | some t => internV t L) = _
  rw [k]
theorem InternPost.from {S : Nat → Prop} {vb mb : Nat} {ob : Option Nat} {w W : World} {r : Int × Int × List Tm} {e : Ending} {w' : World} (hb : Below w.heap.size w W) (h : InternPost S vb mb ob W r e w') : InternPost S vb mb ob w r e w' := by
  obtain ⟨ob', he, h1, h2, h3⟩ := h
  have hs := hb.size
  exact ⟨ob', he, h1.mono fun g hg => hg.imp id fun e => by omega, h2.imp id fun ⟨g, e, hg⟩ => ⟨g, e, by omega⟩, (Off.of_below (S := Mut vb mb ob) hb).trans h3 (fun _ _ e => e) (fun _ _ e => e)⟩
set_option maxRecDepth 100000 in
set_option maxHeartbeats 4000000 in
theorem made_any (S B : Nat → Prop) (base vb mb : Nat) (ob : Option Nat) (L : List Tm) (A : Option Addr) (n c : Nat) (hs : List Int) (f : FuncId) (cap : Array Value) (T : List Tm → Option Tm) (w : World) (hV : Vlt S w vb mb ob L) (hsz : ∀ x ∈ L, szT x ≤ 4096) (hi : Ins w A n hs) (hnc : n ≤ c) (hcm : c ≤ maxLen) (hn : n ≤ 1000)
    (ht : txc.Tab base w) (hbase : base ≤ w.heap.size) (hmb : ∀ g, Mut vb mb ob g → base ≤ g) (hB : ∀ g, B g → ¬ Mut vb mb ob g) (hen : ∀ args w, (callFunc f args).run Tryz.prog w = .ok (.enter f args) w)
    (hf : ∀ (ts : List Tm) (A' : Option Addr) (c' : Nat) (W : World), Below w.heap.size w W → handsF L hs = some ts → ts.length = n → TmsZ (fun g => w.heap.size ≤ g) W A' ts → n ≤ c' → c' ≤ maxLen → Calls Tryz.prog f (#[.slice A' n c'] ++ cap) W (HowPost (fun g => B g ∨ w.heap.size ≤ g) W (T ts)))
    (hT : ∀ ts t, handsF L hs = some ts → T ts = some t → szT t ≤ 10000) :
    Calls Tryz.prog 40 #[.pointer (some ⟨vb, 0, none⟩), .func (.func f) #[] cap, .slice A n c] w (InternPost S vb mb ob w (madeF L hs T)) := by
  have HV := Lib.hid hV
  cases hh : handsF L hs with
  | none =>
    rw [made_none hh]
    have HA := Lib.hid (termsOf_none hV hsz hi hnc hcm hn hh)
    clear hf hT hh hV hsz hi hnc hcm hn ht hbase hmb hB
    go_enter Tryz.func40, Tryz.ntmps40
    go_wp2_with (go_at_call 71; refine HA.out.mono ?_; rintro e w1 ⟨rfl, hb1⟩; have HB1 := Lib.hid hb1; clear hb1)
    go_ret2
    exact intern_same HV.out HB1.out _ _
  | some ts =>
    have HA := Lib.hid (termsOf_some hV hsz hi hnc hcm hn hh)
    cases hk : T ts with
    | none =>
      rw [made_kind hh hk]
      have HF := Lib.hid fun A' c' W (h1 : Below w.heap.size w W) h2 h3 h4 h5 => (by have := hf ts A' c' W h1 hh h2 h3 h4 h5; rw [hk] at this; exact this : Calls Tryz.prog f (#[.slice A' n c'] ++ cap) W (HowPost (fun g => B g ∨ w.heap.size ≤ g) W none))
      clear hf hT hh hV hsz hi hnc hcm hn ht hbase hmb hB hk
      go_enter Tryz.func40, Tryz.ntmps40
      go_wp2_with (go_at_call 71; refine HA.out.mono ?_; rintro e w1 ⟨A1, c1, rfl, h1, h2, h3, h4, h5⟩; have HC := Lib.hid (HF.out A1 c1 w1 h5 h1 h4 h2 h3); have HB1 := Lib.hid h5; clear h1 h2 h3 h4 h5)
      refine HC.out.mono ?_
      rintro e w2 ⟨v, rfl, ⟨y0, y1, y2, y3, rfl, hy⟩, hb2⟩
      obtain ⟨o5, m5, A5, la5, ca5, K5, lk5, ck5, rfl, rfl, rfl, rfl⟩ := hy.shape
      have HE := Lib.hid (HB1.out.trans ((hb2.trans ((below_new w2 (.cells #[.int .i64 o5, .int .i64 m5, .slice A5 la5 ca5, .slice K5 lk5 ck5] 43)).mono hb2.size)).mono HB1.out.size))
      clear hy hb2
      go_wp2
      go_ret2
      exact intern_same HV.out HE.out _ _
    | some t =>
      rw [made_some hh hk]
      have HF := Lib.hid fun A' c' W (h1 : Below w.heap.size w W) h2 h3 h4 h5 => (by have := hf ts A' c' W h1 hh h2 h3 h4 h5; rw [hk] at this; exact this : Calls Tryz.prog f (#[.slice A' n c'] ++ cap) W (HowPost (fun g => B g ∨ w.heap.size ≤ g) W (some t)))
      have HIN := Lib.hid fun (W : World) (hW : Below w.heap.size w W) (v : Value) (hv : TmV (fun g => B g ∨ w.heap.size ≤ g) W t v) => intern_any S (fun g => B g ∨ w.heap.size ≤ g) base vb mb ob L t v W (hV.below hW) hv (fun g hg hm => hg.elim (fun h => hB g h hm) (fun h => by have := hV.lt hm; omega)) (ht.on (hW.mono hbase)) (Nat.le_trans hbase hW.size) hmb (hT ts t hh hk)
      clear hf hT hh hV hsz hi hnc hcm hn ht hbase hmb hB hk
      go_enter Tryz.func40, Tryz.ntmps40
      go_wp2_with (go_at_call 71; refine HA.out.mono ?_; rintro e w1 ⟨A1, c1, rfl, h1, h2, h3, h4, h5⟩; have HC := Lib.hid (HF.out A1 c1 w1 h5 h1 h4 h2 h3); have HB1 := Lib.hid h5; clear h1 h2 h3 h4 h5)
      refine HC.out.mono ?_
      rintro e w2 ⟨v, rfl, ⟨y0, y1, y2, y3, rfl, hy⟩, hb2⟩
      obtain ⟨o5, m5, A5, la5, ca5, K5, lk5, ck5, rfl, rfl, rfl, rfl⟩ := hy.shape
      have hb5 := below_new w2 (.cells #[.int .i64 o5, .int .i64 m5, .slice A5 la5 ca5, .slice K5 lk5 ck5] 43)
      have hb25 := HB1.out.trans ((hb2.trans (hb5.mono hb2.size)).mono HB1.out.size)
      have HE := Lib.hid hb25
      have HI5 := Lib.hid (HIN.out _ hb25 (.agg #[.int .i64 o5, .int .i64 m5, .slice A5 la5 ca5, .slice K5 lk5 ck5]) ⟨_, _, _, _, rfl, TmC.below hb5 _ _ _ _ _ hy⟩)
      obtain ⟨b0, b1, b2, b3⟩ := boxT (Below.refl _ _) (heap_new_ w2 (.cells #[.int .i64 o5, .int .i64 m5, .slice A5 la5 ca5, .slice K5 lk5 ck5] 43))
      clear hy hb2 hb5 hb25
      go_wp2_with (go_at_call 26; refine HI5.out.mono ?_; rintro e w4 hp; have HP := Lib.hid (InternPost.from HE.out hp); obtain ⟨ob', rfl, _⟩ := hp)
      go_ret2
      exact HP.out
theorem made_nil (g : Value) (A : Option Addr) (n c : Nat) (w : World) : Calls Tryz.prog 40 #[.pointer none, g, .slice A n c] w fun e w' => e = .returned (.tuple #[.int .i64 (-1), .int .i64 1]) ∧ w' = w := by
  go_enter Tryz.func40, Tryz.ntmps40
  go_wp2
  go_ret2
  exact ⟨rfl, rfl⟩
end Go.Proofs.YtlhogjigdmpokaaGreatDoor.vtc
namespace Go.Proofs.YtlhogjigdmpokaaGreatDoor.vtc
open Go.RowKit Go.Proofs.YtlhogjigdmpokaaGreatDoor.tlvc Go.Proofs.YtlhogjigdmpokaaGreatDoor.tmc
set_option linter.unusedVariables false
theorem cput_any (op : Int) (D : Option Addr) (la ca : Nat) (w : World) : Calls Tryz.prog 41 #[.int .i64 op, .slice D la ca] w fun e w' => ∃ p q, e = .returned (.func (.func 72) #[] #[.pointer (some ⟨p, 0, none⟩), .pointer (some ⟨q, 0, none⟩)]) ∧ w'.cell? ⟨p, 0, none⟩ = some (.int .i64 op) ∧ w'.cell? ⟨q, 0, none⟩ = some (.slice D la ca) ∧ Below w.heap.size w w' := by
  have hmf : ∀ (fn : Fn) (first cap : Array Value) (w : World), (Instr.makeFunc fn first cap).run Tryz.prog w = .ok (.func fn first cap) w := fun _ _ _ _ => rfl
  have h1 := heap_new_ w (.cells #[.int .i64 op] 41)
  have h2 := heap_new_ (w.alloc (.cells #[.int .i64 op] 41)) (.cells #[.slice D la ca] 24)
  have h3 := (heap_old_ (w.alloc (.cells #[.int .i64 op] 41)) (.cells #[.slice D la ca] 24) (k := w.heap.size) (by simp)).trans h1
  rw [show (w.alloc (.cells #[.int .i64 op] 41)).heap.size = w.heap.size + 1 by simp] at h2
  have HE := Lib.hid (And.intro ((Lib.cell_of_heap h3 0).trans rfl : _ = some (Value.int .i64 op)) (And.intro ((Lib.cell_of_heap h2 0).trans rfl : _ = some (Value.slice D la ca)) ((below_new w (.cells #[.int .i64 op] 41)).alloc (by simp) (.cells #[.slice D la ca] 24))))
  clear h1 h2 h3
  go_enter Tryz.func41, Tryz.ntmps41
  go_wp2
  go_ret
  exact ⟨_, _, rfl, HE.out⟩
/-- Kids of a term are terms one behind the other. -/
theorem mk_tm {B : Nat → Prop} {w : World} {op num : Int} (ho : I64 op) (hm : I64 num) {D : Option Addr} {la ca : Nat} {d : List Int} (hd : Bys w D la d) (hlc : la ≤ ca) (hcm : ca ≤ maxLen) (hB : 0 < la → ∀ g off sp, D = some ⟨g, off, sp⟩ → B g) {K : Option Addr} {n c : Nat} {ts : List Tm} (hk : TmsZ B w K ts) (hn : ts.length = n) (hnc : n ≤ c) (hcm2 : c ≤ maxLen) :
    TmC B w (.mk op num d ts) (.int .i64 op) (.int .i64 num) (.slice D la ca) (.slice K n c) := by
  subst hn
  unfold TmC
  refine ⟨rfl, ho, rfl, hm, ⟨D, la, ca, rfl, hlc, hcm, hd, hB⟩, K, c, rfl, hnc, hcm2, fun hpos => ?_⟩
  obtain ⟨g, e, hg, hBg, hc⟩ := hk hpos
  exact ⟨g, 0, e, hg, hBg, hc⟩
set_option maxHeartbeats 1000000 in
theorem put1_any (op : Int) (ho : I64 op) (p q : Nat) (D : Option Addr) (la ca : Nat) (d : List Int) (B : Nat → Prop) (K : Option Addr) (n c : Nat) (ts : List Tm) (w : World) (hp : w.cell? ⟨p, 0, none⟩ = some (.int .i64 op)) (hq : w.cell? ⟨q, 0, none⟩ = some (.slice D la ca)) (hd : Bys w D la d) (hlc : la ≤ ca) (hcm : ca ≤ maxLen)
    (hB : 0 < la → ∀ g off sp, D = some ⟨g, off, sp⟩ → B g) (hk : TmsZ B w K ts) (hn : ts.length = n) (hnc : n ≤ c) (hcm2 : c ≤ maxLen) :
    Calls Tryz.prog 72 #[.slice K n c, .pointer (some ⟨p, 0, none⟩), .pointer (some ⟨q, 0, none⟩)] w (HowPost B w (some (.mk op 0 d ts))) := by
  have hy := TmC.bound _ _ _ _ _ (mk_tm ho (show I64 0 by unfold I64; omega) hd hlc hcm hB hk hn hnc hcm2)
  obtain ⟨W0, hW0⟩ : ∃ x, w.alloc (.cells #[.int .i64 0, .int .i64 0, .slice none 0 0, .slice none 0 0] 43) = x := ⟨_, rfl⟩
  have hb0 : Below w.heap.size w W0 := by rw [← hW0]; exact below_new _ _
  have p0 : W0.heap[w.heap.size]? = some (.cells #[.int .i64 0, .int .i64 0, .slice none 0 0, .slice none 0 0] 43) := by rw [← hW0]; exact heap_new_ _ _
  have f := fun i => Lib.frozen_of_heap p0 i
  have f0 := f 0
  have f1 := f 1
  have f2 := f 2
  have f3 := f 3
  have t0 : W0.cell? ⟨w.heap.size, 0, none⟩ = some (.int .i64 0) := (Lib.cell_of_heap p0 _).trans rfl
  have t1 : W0.cell? ⟨w.heap.size, 1, none⟩ = some (.int .i64 0) := (Lib.cell_of_heap p0 _).trans rfl
  have t2 : W0.cell? ⟨w.heap.size, 2, none⟩ = some (.slice none 0 0) := (Lib.cell_of_heap p0 _).trans rfl
  have t3 : W0.cell? ⟨w.heap.size, 3, none⟩ = some (.slice none 0 0) := (Lib.cell_of_heap p0 _).trans rfl
  have a0 := (hb0.cell (p := ⟨p, 0, none⟩) (block_lt_of_cell hp)).trans hp
  have a1 := (hb0.cell (p := ⟨q, 0, none⟩) (block_lt_of_cell hq)).trans hq
  obtain ⟨r0, r1, r2, r3, hB, hT⟩ := res_end2 (w := w) (W := W0) (b := w.heap.size) (S := fun g => B g ∧ g < w.heap.size) (Nat.le_refl _) hb0 p0 (fun g hg => by have := hg.2; omega) (TmC.below hb0 _ _ _ _ _ hy)
  have HE := Lib.hid (And.intro hB (TmV.mono hT (B' := B) (fun g hg => hg.1)))
  clear hB hT hb0 p0 f hy hk hd hp hq ho
  go_enter Tryz.func72, Tryz.ntmps72
  go_wp2_with fail
  refine bodyPost_ret (v := .tuple #[.agg #[.int .i64 op, .int .i64 0, .slice D la ca, .slice K n c], .bool true]) ?_ rfl ⟨_, rfl, HE.out.2, HE.out.1⟩
  simp [results, Tryz.results72, go_sem, r0, r1, r2, r3]
set_option maxRecDepth 100000 in
set_option maxHeartbeats 4000000 in
theorem pow1_any (s t : Tm) (B : Nat → Prop) (A : Option Addr) (c : Nat) (w : World) (hk : TmsZ B w A [s, t]) (hc2 : 2 ≤ c) (hcm : c ≤ maxLen) (hsz : szT s + szT t ≤ 100000) :
    Calls Tryz.prog 43 #[.slice A 2 c] w (HowPost (fun g => w.heap.size ≤ g) w (powF s t)) := by
  have h9 : c ≤ 9223372036854775807 := by unfold maxLen at hcm; omega
  obtain ⟨g, rfl, hg, hBg, hkc⟩ := hk (by simp)
  obtain ⟨W0, hW0⟩ : ∃ x, w.alloc (.cells #[.int .i64 0, .int .i64 0, .slice none 0 0, .slice none 0 0] 43) = x := ⟨_, rfl⟩
  have hb0 : Below w.heap.size w W0 := by rw [← hW0]; exact below_new _ _
  have p0 : W0.heap[w.heap.size]? = some (.cells #[.int .i64 0, .int .i64 0, .slice none 0 0, .slice none 0 0] 43) := by rw [← hW0]; exact heap_new_ _ _
  have hz0 : w.heap.size < W0.heap.size := (Array.getElem?_eq_some_iff.1 p0).1
  have hkc := KidsC.below hb0 hg hBg _ _ hkc
  obtain ⟨x0, x1, x2, x3, a0, a1, a2, a3, hx⟩ := hkc.at 0 (by simp)
  obtain ⟨y0, y1, y2, y3, b0, b1, b2, b3, hy⟩ := hkc.at 1 (by simp)
  simp only [Nat.zero_mul, Nat.zero_add, Nat.one_mul, Nat.reduceAdd] at a0 a1 a2 a3 b0 b1 b2 b3
  have hpw := pow_any s t B B (.agg #[x0, x1, x2, x3]) (.agg #[y0, y1, y2, y3]) W0.drew ⟨_, _, _, _, rfl, TmC.below (Below.refl _ _).drew _ _ _ _ _ hx⟩ ⟨_, _, _, _, rfl, TmC.below (Below.refl _ _).drew _ _ _ _ _ hy⟩ hsz
  have HP := Lib.hid hpw
  have HB := Lib.hid (And.intro p0 (And.intro hz0 hb0))
  clear hpw hx hy hkc hk p0 hz0 hb0 hsz hcm
  obtain ⟨R, hR⟩ : ∃ x, powF s t = x := ⟨_, rfl⟩
  rw [hR] at HP ⊢
  clear hR
  go_enter Tryz.func43, Tryz.ntmps43
  go_wp2_with fail
  go_region_law (go_simp; go_at_call 44; refine HP.out.mono ?_; rintro e w2 ⟨v, rfl, hT1, hb2⟩; obtain ⟨z0, z1, z2, z3, rfl, hz⟩ := hT1; obtain ⟨o5, m5, A5, la5, ca5, K5, lk5, ck5, rfl, rfl, rfl, rfl⟩ := hz.shape; have hb2 := drew_below hb2; have p1 := (hb2.block w.heap.size HB.out.2.1).trans HB.out.1; have f0 := Lib.frozen_of_heap p1 0; have f1 := Lib.frozen_of_heap p1 1; have f2 := Lib.frozen_of_heap p1 2; have f3 := Lib.frozen_of_heap p1 3; obtain ⟨s0, s1, s2, s3⟩ : w2.cell? ⟨w.heap.size, 0, none⟩ = some (.int .i64 0) ∧ w2.cell? ⟨w.heap.size, 1, none⟩ = some (.int .i64 0) ∧ w2.cell? ⟨w.heap.size, 2, none⟩ = some (.slice none 0 0) ∧ w2.cell? ⟨w.heap.size, 3, none⟩ = some (.slice none 0 0) := ⟨(Lib.cell_of_heap p1 _).trans rfl, (Lib.cell_of_heap p1 _).trans rfl, (Lib.cell_of_heap p1 _).trans rfl, (Lib.cell_of_heap p1 _).trans rfl⟩; obtain ⟨r0, r1, r2, r3, hB, hT⟩ := res_end2 (w := w) (W := w2) (b := w.heap.size) (S := fun g => W0.heap.size ≤ g) (Nat.le_refl _) (HB.out.2.2.trans (hb2.mono HB.out.2.2.size)) p1 (fun g hg => by have := HB.out.2.1; omega) hz; have HE := Lib.hid (And.intro hB (TmV.mono hT (B' := fun g => w.heap.size ≤ g) (fun g hg => by have := HB.out.2.1; omega))); clear hB hT hz hb2 p1)
  all_goals
    go_wp2_with fail
    refine bodyPost_ret (v := .tuple #[.agg #[.int .i64 o5, .int .i64 m5, .slice A5 la5 ca5, .slice K5 lk5 ck5], .bool R.isSome]) ?_ rfl ⟨_, rfl, HE.out.2, HE.out.1⟩
    simp [results, Tryz.results43, go_sem, r0, r1, r2, r3]
end Go.Proofs.YtlhogjigdmpokaaGreatDoor.vtc
namespace Go.Proofs.YtlhogjigdmpokaaGreatDoor.vtc
open Go.RowKit Go.Proofs.YtlhogjigdmpokaaGreatDoor.tlvc Go.Proofs.YtlhogjigdmpokaaGreatDoor.tmc
set_option linter.unusedVariables false
/-- A vault in use. -/
structure Vok (S : Nat → Prop) (base vb mb : Nat) (ob : Option Nat) (L : List Tm) (w : World) : Prop where
  vlt : Vlt S w vb mb ob L
  sz : ∀ x ∈ L, szT x ≤ 4096
  tab : txc.Tab base w
  lo : base ≤ w.heap.size
  mlo : ∀ g, Mut vb mb ob g → base ≤ g
theorem Vok.below {S : Nat → Prop} {base vb mb : Nat} {ob : Option Nat} {L : List Tm} {w W : World} (h : Vok S base vb mb ob L w) (hb : Below w.heap.size w W) : Vok S base vb mb ob L W :=
  ⟨h.vlt.below hb, h.sz, h.tab.on (hb.mono h.lo), Nat.le_trans h.lo hb.size, h.mlo⟩
theorem handsF_sz {L : List Tm} (h : ∀ x ∈ L, szT x ≤ 4096) : ∀ {hs : List Int} {ts : List Tm}, handsF L hs = some ts → szTs ts ≤ 4096 * hs.length
  | [], ts, e => by
    unfold handsF at e
    cases e
    unfold szTs
    omega
  | n :: ns, ts, e => by
    unfold handsF at e
    cases h1 : hand L n with
    | none => rw [h1] at e; cases e
    | some t =>
      cases h2 : handsF L ns with
      | none => rw [h1, h2] at e; cases e
      | some us =>
        rw [h1, h2] at e
        cases e
        have h3 := handsF_sz h h2
        have h4 := h t (hand_mem h1)
        rw [szTs_two, List.length_cons]
        omega
theorem of_made (L : List Tm) (op key : Int) (d : List Int) : madeF L [key] (fun ts => some (.mk op 0 d ts)) = ofF L op key d := by
  cases h : hand L key with
  | none => rw [of_none h, made_none (by rw [handsF_one, h]; rfl)]
  | some t => rw [of_some h, made_some (ts := [t]) (by rw [handsF_one, h]; rfl) rfl]
theorem hash_made (L : List Tm) (d : List Int) : madeF L [] (fun ts => some (.mk 5 0 d ts)) = internV (.mk 5 0 d []) L := made_some (handsF_nil L) rfl
theorem atom_made (L : List Tm) (num : Int) : madeF L [] (fun _ => some (.mk 1 num [] [])) = internV (.mk 1 num [] []) L := made_some (handsF_nil L) rfl
theorem powF_sz {t x p : Tm} (h : powF t x = some p) : szT p = szT t + szT x := by
  unfold powF at h
  split at h
  · split at h
    · cases h
      obtain ⟨o, m, d, ks⟩ := t
      unfold pow0
      simp only [Tm.kids]
      rw [szT_kids, szT_kids, szTs_perm (putF_perm ks x), szTs_two]
      omega
    · cases h
  · cases h
def powT : List Tm → Option Tm
  | [s, t] => powF s t
  | _ => none
theorem pow_made (L : List Tm) (b x : Int) : madeF L [b, x] powT = powL L b x := by
  cases hb : hand L b with
  | none => rw [powL_none (.inl hb), made_none (by rw [handsF_two, hb])]
  | some s =>
    cases hx : hand L x with
    | none => rw [powL_none (.inr hx), made_none (by rw [handsF_two, hb, hx])]
    | some t =>
      have hh : handsF L [b, x] = some [s, t] := by rw [handsF_two, hb, hx]
      cases hp : powF s t with
      | none => rw [powL_kind hb hx hp, made_kind hh hp]
      | some p => rw [powL_some hb hx hp, made_some hh hp]
theorem made_put {S B : Nat → Prop} {base vb mb : Nat} {ob : Option Nat} {L : List Tm} {w : World} (hk : Vok S base vb mb ob L w) (op : Int) (ho : I64 op) (p q : Nat) (D : Option Addr) (la ca : Nat) (d : List Int) (A : Option Addr) (n c : Nat) (hs : List Int) (hi : Ins w A n hs) (hnc : n ≤ c) (hcm : c ≤ maxLen) (hn : n ≤ 2) (hB : ∀ g, B g → ¬ Mut vb mb ob g)
    (hp : w.cell? ⟨p, 0, none⟩ = some (.int .i64 op)) (hq : w.cell? ⟨q, 0, none⟩ = some (.slice D la ca)) (hd : Bys w D la d) (hlc : la ≤ ca) (hcm2 : ca ≤ maxLen) (hDB : 0 < la → ∀ g off sp, D = some ⟨g, off, sp⟩ → B g) :
    Calls Tryz.prog 40 #[.pointer (some ⟨vb, 0, none⟩), .func (.func 72) #[] #[.pointer (some ⟨p, 0, none⟩), .pointer (some ⟨q, 0, none⟩)], .slice A n c] w (InternPost S vb mb ob w (madeF L hs fun ts => some (.mk op 0 d ts))) := by
  refine made_any S B base vb mb ob L A n c hs 72 _ (fun ts => some (.mk op 0 d ts)) w hk.vlt hk.sz hi hnc hcm (by omega) hk.tab hk.lo hk.mlo hB (enters_of Tryz.func72 (by kernel_rfl) rfl) (fun ts A' c' W hW hh hl hz h1 h2 => ?_) (fun ts t hh e => ?_)
  · exact put1_any op ho p q D la ca d _ A' n c' ts W ((hW.cell (p := ⟨p, 0, none⟩) (block_lt_of_cell hp)).trans hp) ((hW.cell (p := ⟨q, 0, none⟩) (block_lt_of_cell hq)).trans hq) (hd.below hW) hlc hcm2 (fun hl g off sp e => .inl (hDB hl g off sp e)) (hz.mono fun g hg => .inr hg) hl h1 h2
  · cases e
    have h1 := handsF_sz hk.sz hh
    have h2 := hi.1
    rw [szT_kids]
    omega
/-- One handle, as the calls hand it on. -/
theorem ins_one (w : World) (x : Int) (hx : I64 x) : Ins (w.alloc (.cells #[.int .i64 x] 3)) (some ⟨w.heap.size, 0, none⟩) 1 [x] := by
  have h1 := heap_new_ w (.cells #[.int .i64 x] 3)
  refine ⟨rfl, fun y hy => by rw [List.mem_singleton.1 hy]; exact hx, fun _ => ⟨_, 0, rfl, by simp, fun j hj => ?_⟩⟩
  obtain rfl : j = 0 := by omega
  exact (Lib.cell_of_heap h1 0).trans rfl
theorem ins_two (w : World) (x y : Int) (hx : I64 x) (hy : I64 y) : Ins (w.alloc (.cells #[.int .i64 x, .int .i64 y] 3)) (some ⟨w.heap.size, 0, none⟩) 2 [x, y] := by
  have h1 := heap_new_ w (.cells #[.int .i64 x, .int .i64 y] 3)
  refine ⟨rfl, fun z hz => by rcases List.mem_cons.1 hz with rfl | hz; exact hx; rw [List.mem_singleton.1 hz]; exact hy, fun _ => ⟨_, 0, rfl, by simp, fun j hj => ?_⟩⟩
  match j, hj with
  | 0, _ => exact (Lib.cell_of_heap h1 0).trans rfl
  | 1, _ => exact (Lib.cell_of_heap h1 1).trans rfl
theorem exp_any {S : Nat → Prop} {base vb mb : Nat} {ob : Option Nat} {L : List Tm} {w : World} (hk : Vok S base vb mb ob L w) (key : Int) (hkey : I64 key) :
    Calls Tryz.prog 23 #[.pointer (some ⟨vb, 0, none⟩), .int .i64 key] w (InternPost S vb mb ob w (ofF L 7 key [])) := by
  have HM := Lib.hid fun (w1 : World) (p q : Nat) (hb1 : Below w.heap.size w w1) (hp : w1.cell? ⟨p, 0, none⟩ = some (.int .i64 7)) (hq : w1.cell? ⟨q, 0, none⟩ = some (.slice none 0 0)) => And.intro (hb1.trans ((below_new w1 (.cells #[.int .i64 key] 3)).mono hb1.size)) (made_put (B := fun g => ¬ Mut vb mb ob g) (hk.below (hb1.trans ((below_new w1 (.cells #[.int .i64 key] 3)).mono hb1.size))) 7 (by unfold I64; omega) p q none 0 0 [] _ 1 1 [key] (ins_one w1 key hkey) (Nat.le_refl _) (by unfold maxLen; omega) (by omega) (fun g hg => hg) (((below_new w1 _).cell (p := ⟨p, 0, none⟩) (block_lt_of_cell hp)).trans hp) (((below_new w1 _).cell (p := ⟨q, 0, none⟩) (block_lt_of_cell hq)).trans hq) (Bys.nil_ _ _) (Nat.le_refl _) (Nat.zero_le _) (fun h => absurd h (by omega)))
  rw [of_made] at HM
  clear hk hkey
  go_enter Tryz.func23, Tryz.ntmps23
  go_wp2_with (first | (go_at_call 41; refine (cput_any 7 none 0 0 _).mono ?_; rintro e w1 ⟨p, q, rfl, hp, hq, hb1⟩; have HM1 := Lib.hid (HM.out w1 p q hb1 hp hq); clear hp hq hb1) | (go_at_call 40; refine HM1.out.2.mono ?_; rintro e w4 hp; have HP := Lib.hid (InternPost.from HM1.out.1 hp); obtain ⟨ob', rfl, _⟩ := hp))
  go_ret2
  exact HP.out
theorem seal_any {S : Nat → Prop} {base vb mb : Nat} {ob : Option Nat} {L : List Tm} {w : World} (hk : Vok S base vb mb ob L w) (key : Int) (hkey : I64 key) (D : Option Addr) (la ca : Nat) (d : List Int) (hd : Bys w D la d) (hlc : la ≤ ca) (hcm : ca ≤ maxLen) (hDB : 0 < la → ∀ g off sp, D = some ⟨g, off, sp⟩ → ¬ Mut vb mb ob g) :
    Calls Tryz.prog 21 #[.pointer (some ⟨vb, 0, none⟩), .int .i64 key, .slice D la ca] w (InternPost S vb mb ob w (ofF L 4 key d)) := by
  have HM := Lib.hid fun (w1 : World) (p q : Nat) (hb1 : Below w.heap.size w w1) (hp : w1.cell? ⟨p, 0, none⟩ = some (.int .i64 4)) (hq : w1.cell? ⟨q, 0, none⟩ = some (.slice D la ca)) => And.intro (hb1.trans ((below_new w1 (.cells #[.int .i64 key] 3)).mono hb1.size)) (made_put (B := fun g => ¬ Mut vb mb ob g) (hk.below (hb1.trans ((below_new w1 (.cells #[.int .i64 key] 3)).mono hb1.size))) 4 (by unfold I64; omega) p q D la ca d _ 1 1 [key] (ins_one w1 key hkey) (Nat.le_refl _) (by unfold maxLen; omega) (by omega) (fun g hg => hg) (((below_new w1 _).cell (p := ⟨p, 0, none⟩) (block_lt_of_cell hp)).trans hp) (((below_new w1 _).cell (p := ⟨q, 0, none⟩) (block_lt_of_cell hq)).trans hq) (hd.below (hb1.trans ((below_new w1 (.cells #[.int .i64 key] 3)).mono hb1.size))) hlc hcm (fun hl g off sp e => hDB hl g off sp e))
  rw [of_made] at HM
  clear hk hkey hd hlc hcm hDB
  go_enter Tryz.func21, Tryz.ntmps21
  go_wp2_with (first | (go_at_call 41; refine (cput_any 4 D la ca _).mono ?_; rintro e w1 ⟨p, q, rfl, hp, hq, hb1⟩; have HM1 := Lib.hid (HM.out w1 p q hb1 hp hq); clear hp hq hb1) | (go_at_call 40; refine HM1.out.2.mono ?_; rintro e w4 hp; have HP := Lib.hid (InternPost.from HM1.out.1 hp); obtain ⟨ob', rfl, _⟩ := hp))
  go_ret2
  exact HP.out
theorem cpow_any {S : Nat → Prop} {base vb mb : Nat} {ob : Option Nat} {L : List Tm} {w : World} (hk : Vok S base vb mb ob L w) (b x : Int) (hb : I64 b) (hx : I64 x) :
    Calls Tryz.prog 24 #[.pointer (some ⟨vb, 0, none⟩), .int .i64 b, .int .i64 x] w (InternPost S vb mb ob w (powL L b x)) := by
  have hb1 : Below w.heap.size w (w.alloc (.cells #[.int .i64 b, .int .i64 x] 3)) := below_new _ _
  have hM := made_any S (fun g => ¬ Mut vb mb ob g) base vb mb ob L _ 2 2 [b, x] 43 #[] powT _ (hk.below hb1).vlt hk.sz (ins_two w b x hb hx) (Nat.le_refl _) (by unfold maxLen; omega) (by omega) (hk.below hb1).tab (hk.below hb1).lo hk.mlo (fun g hg => hg) (enters_of Tryz.func43 (by kernel_rfl) rfl)
    (fun ts A' c' W hW hh hl hz h1 h2 => by
      match ts, hl with
      | [s, t], _ =>
        have hsz := handsF_sz hk.sz hh
        rw [szTs_two, szTs_two] at hsz
        have hs := hW.size
        refine (pow1_any s t _ A' c' W hz h1 h2 (by simp at hsz; omega)).mono ?_
        rintro e w' ⟨v, h3, h4, h5⟩
        exact ⟨v, h3, TmV.mono h4 (fun g hg => .inr (by omega)), h5⟩) (fun ts t hh e => by
      match ts, e with
      | [s, t0], e =>
        have hsz := handsF_sz hk.sz hh
        rw [szTs_two, szTs_two] at hsz
        have h1 := powF_sz e
        simp at hsz
        omega)
  rw [pow_made] at hM
  have HM := Lib.hid (And.intro hb1 hM)
  clear hM hb1 hk hb hx
  go_enter Tryz.func24, Tryz.ntmps24
  go_wp2_with (go_at_call 40; refine HM.out.2.mono ?_; rintro e w4 hp; have HP := Lib.hid (InternPost.from HM.out.1 hp); obtain ⟨ob', rfl, _⟩ := hp)
  go_ret2
  exact HP.out
end Go.Proofs.YtlhogjigdmpokaaGreatDoor.vtc
namespace Go.Proofs.YtlhogjigdmpokaaGreatDoor.vtc
open Go.RowKit Go.Proofs.YtlhogjigdmpokaaGreatDoor.tlvc Go.Proofs.YtlhogjigdmpokaaGreatDoor.tmc
set_option linter.unusedVariables false
def sameB (xs ys : List Int) : Bool := (strOfNums xs).toList == (strOfNums ys).toList
theorem fit_ext : ∀ {xs ys : List Int}, Fit xs → Fit ys → Lib.bytesOf xs = Lib.bytesOf ys → xs = ys
  | [], [], _, _, _ => rfl
  | [], _ :: _, _, _, h => by simp [Lib.bytesOf] at h
  | _ :: _, [], _, _, h => by simp [Lib.bytesOf] at h
  | x :: xs, y :: ys, hx, hy, h => by
    simp only [Lib.bytesOf, List.map_cons, List.cons.injEq] at h
    have h1 := hx x (by simp)
    have h2 := hy y (by simp)
    have e : x = y := by
      have := congrArg UInt8.toNat h.1
      simp only [UInt8.toNat_ofNat'] at this
      omega
    have e2 : xs = ys := fit_ext (fun z hz => hx z (by simp [hz])) (fun z hz => hy z (by simp [hz])) h.2
    rw [e, e2]
theorem sameB_iff {xs ys : List Int} (hx : Fit xs) (hy : Fit ys) : sameB xs ys = true ↔ xs = ys := by
  unfold sameB
  rw [Lib.strOfNums_toList, Lib.strOfNums_toList, beq_iff_eq]
  exact ⟨fit_ext hx hy, fun h => by rw [h]⟩
theorem sameB_no {xs ys : List Int} (hx : Fit xs) (hy : Fit ys) (h : xs ≠ ys) : sameB xs ys = false := by
  cases e : sameB xs ys
  · rfl
  · exact absurd ((sameB_iff hx hy).1 e) h
/-- What is opened, or nothing. -/
def OpenPost (w : World) (r : Option (List Int)) (e : Ending) (w' : World) : Prop := ∃ A n c, e = .returned (.tuple #[.slice A n c, .bool r.isSome]) ∧ n ≤ c ∧ c ≤ maxLen ∧ Bys w' A n (r.getD []) ∧ (0 < n → ∀ g off sp, A = some ⟨g, off, sp⟩ → w.heap.size ≤ g) ∧ Below w.heap.size w w'
theorem open_none {L : List Tm} {key sealed : Int} (h : handsF L [key, sealed] = none) : openF L key sealed = none := by
  rw [handsF_two] at h
  unfold openF
  cases h1 : hand L key with
  | none => rfl
  | some k =>
    cases h2 : hand L sealed with
    | none => rfl
    | some t => rw [h1, h2] at h; cases h
theorem verify_none {L : List Tm} {pub sig : Int} {msg : List Int} (h : handsF L [pub, sig] = none) : verifyF L pub msg sig = false := by
  rw [handsF_two] at h
  unfold verifyF
  cases h1 : hand L pub with
  | none => rfl
  | some k =>
    cases h2 : hand L sig with
    | none => cases k; rename_i a b c d; cases d <;> rfl
    | some t => rw [h1, h2] at h; cases h
theorem hands_two {L : List Tm} {a b : Int} {ts : List Tm} (h : handsF L [a, b] = some ts) : ∃ s t, ts = [s, t] ∧ hand L a = some s ∧ hand L b = some t := by
  rw [handsF_two] at h
  cases h1 : hand L a with
  | none => rw [h1] at h; cases h
  | some s =>
    cases h2 : hand L b with
    | none => rw [h1, h2] at h; cases h
    | some t => rw [h1, h2] at h; cases h; exact ⟨s, t, rfl, rfl, rfl⟩
/-- One kid. -/
theorem one_kid {o m : Int} {d : List Int} {ks : List Tm} (h : rightF (.mk o m d ks) 0 = true) (ho : o = 2 ∨ o = 3 ∨ o = 4 ∨ o = 6) : ∃ x, ks = [x] := by
  have h1 := (right_mk.1 h).2.1
  have h2 : ks.length = 1 := by
    unfold aloneB at h1
    rcases ho with rfl | rfl | rfl | rfl <;> simp at h1 <;> omega
  match ks, h2 with
  | [x], _ => exact ⟨x, rfl⟩
/-- The cells of two terms, one behind the other. -/
theorem two_cells {B : Nat → Prop} {w : World} {A : Option Addr} {s t : Tm} (h : TmsZ B w A [s, t]) : ∃ g so sm sA sl sc sK sk sq to tm tA tl tc tK tk tq, A = some ⟨g, 0, none⟩ ∧
    TmC B w s (.int .i64 so) (.int .i64 sm) (.slice sA sl sc) (.slice sK sk sq) ∧ TmC B w t (.int .i64 to) (.int .i64 tm) (.slice tA tl tc) (.slice tK tk tq) ∧
    w.cell? ⟨g, 0, none⟩ = some (.int .i64 so) ∧ w.cell? ⟨g, 1, none⟩ = some (.int .i64 sm) ∧ w.cell? ⟨g, 2, none⟩ = some (.slice sA sl sc) ∧ w.cell? ⟨g, 3, none⟩ = some (.slice sK sk sq) ∧
    w.cell? ⟨g, 4, none⟩ = some (.int .i64 to) ∧ w.cell? ⟨g, 5, none⟩ = some (.int .i64 tm) ∧ w.cell? ⟨g, 6, none⟩ = some (.slice tA tl tc) ∧ w.cell? ⟨g, 7, none⟩ = some (.slice tK tk tq) := by
  obtain ⟨g, rfl, hg, hBg, hkc⟩ := h (by simp)
  obtain ⟨x0, x1, x2, x3, a0, a1, a2, a3, hx⟩ := hkc.at 0 (by simp)
  obtain ⟨y0, y1, y2, y3, b0, b1, b2, b3, hy⟩ := hkc.at 1 (by simp)
  simp only [Nat.zero_mul, Nat.zero_add, Nat.one_mul, Nat.reduceAdd] at a0 a1 a2 a3 b0 b1 b2 b3
  obtain ⟨so, sm, sA, sl, sc, sK, sk, sq, rfl, rfl, rfl, rfl⟩ := hx.shape
  obtain ⟨to, tm, tA, tl, tc, tK, tk, tq, rfl, rfl, rfl, rfl⟩ := hy.shape
  exact ⟨g, so, sm, sA, sl, sc, sK, sk, sq, to, tm, tA, tl, tc, tK, tk, tq, rfl, hx, hy, a0, a1, a2, a3, b0, b1, b2, b3⟩
/-- The cells of a term's only kid. -/
theorem kid_cells {B : Nat → Prop} {w : World} {o m : Int} {d : List Int} {x : Tm} {c0 c1 c2 : Value} {K : Option Addr} {lk ck : Nat} (h : TmC B w (.mk o m d [x]) c0 c1 c2 (.slice K lk ck)) : ∃ g off y0 y1 y2 y3, K = some ⟨g, off, none⟩ ∧ lk = 1 ∧ ck ≤ 9223372036854775807 ∧ 1 ≤ ck ∧ TmC B w x y0 y1 y2 y3 ∧
    w.cell? ⟨g, off, none⟩ = some y0 ∧ w.cell? ⟨g, off + 1, none⟩ = some y1 ∧ w.cell? ⟨g, off + 2, none⟩ = some y2 ∧ w.cell? ⟨g, off + 3, none⟩ = some y3 := by
  unfold TmC at h
  obtain ⟨_, _, _, _, _, K', ck', e, h1, h2, h3⟩ := h
  cases e
  obtain ⟨g, off, rfl, hg, hB, hkc⟩ := h3 (by simp)
  obtain ⟨y0, y1, y2, y3, a0, a1, a2, a3, hx⟩ := hkc.at 0 (by simp)
  simp only [Nat.zero_mul, Nat.add_zero] at a0 a1 a2 a3
  unfold maxLen at h2
  simp only [List.length_cons, List.length_nil, Nat.zero_add] at h1
  exact ⟨g, off, y0, y1, y2, y3, rfl, rfl, by omega, h1, hx, a0, a1, a2, a3⟩
theorem op_of {B : Nat → Prop} {w : World} {o m : Int} {d : List Int} {ks : List Tm} {c0 c1 c2 c3 : Value} (h : TmC B w (.mk o m d ks) c0 c1 c2 c3) : c0 = .int .i64 o := by
  unfold TmC at h
  exact h.1
theorem data_at {B : Nat → Prop} {w : World} {o m : Int} {d : List Int} {ks : List Tm} {c0 c1 c3 : Value} {A : Option Addr} {la ca : Nat} (h : TmC B w (.mk o m d ks) c0 c1 (.slice A la ca) c3) : la ≤ ca ∧ ca ≤ maxLen ∧ Bys w A la d ∧ (0 < la → ∀ g off sp, A = some ⟨g, off, sp⟩ → B g) := by
  unfold TmC at h
  obtain ⟨_, _, _, _, ⟨A', la', ca', e, h1, h2, h3, h4⟩, _⟩ := h
  cases e
  exact ⟨h1, h2, h3, h4⟩
theorem open_other {L : List Tm} {key sealed o m : Int} {d : List Int} {k : Tm} {ks : List Tm} (h : hand L key = some k) (hs : hand L sealed = some (.mk o m d ks)) (ho : o ≠ 4) : openF L key sealed = none := by
  unfold openF
  rw [h, hs]
  cases ks with
  | nil => rfl
  | cons x xs =>
    show (if o = 4 ∧ alikeB x k = true then some d else none) = none
    rw [if_neg fun e => ho e.1]
theorem verify_other {L : List Tm} {pub sig p m c s n : Int} {e d msg : List Int} {ks ls : List Tm} (h : hand L pub = some (.mk p m e ks)) (hs : hand L sig = some (.mk s n d ls)) (ho : p ≠ 2 ∨ s ≠ 3) : verifyF L pub msg sig = false := by
  unfold verifyF
  rw [h, hs]
  cases ks with
  | nil => cases ls <;> rfl
  | cons x xs =>
    cases ls with
    | nil => rfl
    | cons y ys => exact decide_eq_false fun e => by rcases ho with h | h; exact h e.1; exact h e.2.1
theorem ord_eq (s x : Tm) : (ordT s x = 0) = (x = s) := by
  rw [eq_iff_iff]
  exact ⟨fun h => (ordT_zero h).symm, fun h => by rw [h]; exact ordT_refl _⟩
end Go.Proofs.YtlhogjigdmpokaaGreatDoor.vtc
