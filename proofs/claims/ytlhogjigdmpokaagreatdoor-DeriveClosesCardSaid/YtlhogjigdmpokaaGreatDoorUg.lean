/- The laws' live question. What the vault's laws share: the ways of an Intern; the arguments' terms; calls within a law. Keys in a table: what calls on handles answer: plain. Nothing here names the program. -/
import Derived.Test.YtlhogjigdmpokaaGreatDoorUd
import Derived.Test.YtlhogjigdmpokaaGreatDoorUe
namespace Go.Proofs.YtlhogjigdmpokaaGreatDoor.vtc
open Go.RowKit Go.Proofs.YtlhogjigdmpokaaGreatDoor.tlvc Go.Proofs.YtlhogjigdmpokaaGreatDoor.tmc
set_option linter.unusedVariables false
def ta : Tm := .mk 1 1 [] []
def tp : Tm := .mk 2 0 [] [ta]
theorem ta_right : ∀ outer, outer < 16 → rightF ta outer = true := fun outer h => by
  unfold ta
  rw [right_mk]
  exact ⟨h, by decide, by simp, List.Pairwise.nil⟩
theorem tp_right : rightF tp 0 = true := by
  unfold tp
  rw [right_mk]
  refine ⟨by omega, by decide, fun k hk => ?_, by simp⟩
  rw [List.mem_singleton.1 hk]
  exact ta_right 1 (by omega)
theorem tp_size : szT tp = 2 := by
  unfold tp ta
  rw [szT_kids, szTs_two, szT_kids]
  rfl
theorem tp_intern : internV tp [] = (1, 0, [ta, tp]) := by
  have e1 : putV ta [] = [ta] := by
    unfold ta
    rw [putV_new (by simp), putsV_nil]
    rfl
  have e : putV tp [] = [ta, tp] := by
    show putV (.mk 2 0 [] [ta]) [] = _
    rw [putV_new (by simp), putsV_cons, putsV_nil, e1]
    rfl
  rw [intern_new tp_right rfl (by rw [tp_size]; decide), e]
  rfl
theorem tm_atom (B : Nat → Prop) (w : World) : TmC B w ta (.int .i64 1) (.int .i64 1) (.slice none 0 0) (.slice none 0 0) := by
  unfold ta TmC
  exact ⟨rfl, by unfold I64; omega, rfl, by unfold I64; omega, ⟨none, 0, 0, rfl, Nat.le_refl _, Nat.zero_le _, Bys.nil_ _ _, fun h => absurd h (by omega)⟩, none, 0, rfl, Nat.le_refl _, Nat.zero_le _, fun h => absurd h (by simp)⟩
theorem mut_base {b g : Nat} (h : Mut (b + 1) b none g) : b ≤ g := by
  rcases h with h | h | h
  · omega
  · omega
  · cases h
end Go.Proofs.YtlhogjigdmpokaaGreatDoor.vtc
namespace Go.Proofs.YtlhogjigdmpokaaGreatDoor.vtc
open Go.RowKit Go.Proofs.YtlhogjigdmpokaaGreatDoor.tlvc Go.Proofs.YtlhogjigdmpokaaGreatDoor.tmc
set_option linter.unusedVariables false
/-- Three ways: it was there; it is refused; it is new, and then it is the last one. -/
theorem intern_ways (t : Tm) (L : List Tm) (ho : Once L) (hc : Closed L) (hr : ∀ x ∈ L, rightF x 0 = true) :
    (∃ i : Nat, findV t L = some i ∧ i < L.length ∧ internV t L = ((i : Int), 0, L)) ∨
    (findV t L = none ∧ ∃ e : Int, (e = 51 ∨ e = 2) ∧ internV t L = (-1, e, L)) ∨
    (findV t L = none ∧ L.length + 1 ≤ (putV t L).length ∧ (putV t L).length ≤ L.length + szT t ∧ internV t L = (((putV t L).length : Int) - 1, 0, putV t L) ∧ internV t (putV t L) = (((putV t L).length : Int) - 1, 0, putV t L) ∧ findV t (putV t L) = some ((putV t L).length - 1)) := by
  cases hr0 : rightF t 0 with
  | false =>
    have hno : findV t L = none := findV_none.2 fun h => by rw [hr t h] at hr0; cases hr0
    exact .inr (.inl ⟨hno, 51, .inl rfl, intern_no hr0⟩)
  | true =>
    cases hf : findV t L with
    | some i => exact .inl ⟨i, rfl, findV_lt hf, intern_had hr0 hf⟩
    | none =>
      by_cases hl : L.length + szT t ≤ 4096
      · obtain ⟨h1, h2⟩ := put_last (findV_none.1 hf)
        have hone := (put_once (t := t) ho hc).1
        have hfl := (findV_once hone).2 h1
        refine .inr (.inr ⟨rfl, h2, (put_one t L).len, intern_new hr0 hf hl, ?_, hfl⟩)
        rw [intern_had hr0 hfl]
        congr 1
        omega
      · exact .inr (.inl ⟨rfl, 2, .inr rfl, intern_full hr0 hf hl⟩)
/-- A term among a law's arguments, where it lies. -/
theorem tms_at {w : World} {A : Option Addr} {xs : List Tm} (h : Tms w A xs) {i : Nat} {t : Tm} (hi : xs[i]? = some t) : ∃ g off to tm tA tla tca tK tlk tck, A = some ⟨g, off, none⟩ ∧ ∀ W, Below w.heap.size w W →
    W.cell? ⟨g, off + i * 4, none⟩ = some (.int .i64 to) ∧ W.cell? ⟨g, off + i * 4 + 1, none⟩ = some (.int .i64 tm) ∧ W.cell? ⟨g, off + i * 4 + 2, none⟩ = some (.slice tA tla tca) ∧ W.cell? ⟨g, off + i * 4 + 3, none⟩ = some (.slice tK tlk tck) ∧ TmV (fun g => g < w.heap.size) W t (.agg #[.int .i64 to, .int .i64 tm, .slice tA tla tca, .slice tK tlk tck]) := by
  obtain ⟨hil, he⟩ := List.getElem?_eq_some_iff.1 hi
  obtain ⟨g, off, rfl, hg, hks⟩ := h (by omega)
  have hk := KidsC.mono (B' := fun g => g < w.heap.size) (fun g hg => hg.2) xs off (KidsC.bound xs off hks)
  obtain ⟨d0, d1, d2, d3, e0, e1, e2, e3, hd⟩ := hk.at i hil
  rw [he] at hd
  obtain ⟨to, tm, tA, tla, tca, tK, tlk, tck, rfl, rfl, rfl, rfl⟩ := hd.shape
  refine ⟨g, off, to, tm, tA, tla, tca, tK, tlk, tck, rfl, fun W hW => ⟨(hW.cell (p := ⟨g, _, none⟩) hg).trans e0, (hW.cell (p := ⟨g, _, none⟩) hg).trans e1, (hW.cell (p := ⟨g, _, none⟩) hg).trans e2, (hW.cell (p := ⟨g, _, none⟩) hg).trans e3, _, _, _, _, rfl, TmC.below hW _ _ _ _ _ hd⟩⟩
/-- An Intern within a law. -/
theorem law_intern {w0 wf : World} {vb mb : Nat} {ob : Option Nat} {L : List Tm} (t : Tm) (v : Value) (hV : Vlt (fun g => w0.heap.size ≤ g) wf vb mb ob L) (hb : Below w0.heap.size w0 wf) (hv : TmV (fun g => g < w0.heap.size) wf t v) (ht : txc.Tab w0.heap.size w0) (hsz : szT t ≤ 10000) :
    Calls Tryz.prog 26 #[.pointer (some ⟨vb, 0, none⟩), v] wf fun e w' => ∃ ob', e = .returned (.tuple #[.int .i64 (internV t L).1, .int .i64 (internV t L).2.1]) ∧ Vlt (fun g => w0.heap.size ≤ g) w' vb mb ob' (internV t L).2.2 ∧ Below w0.heap.size w0 w' := by
  refine (intern_any _ _ w0.heap.size vb mb ob L t v wf hV hv (fun g hg hm => by have := hV.all g hm; omega) (ht.on hb) hb.size (fun g hg => hV.all g hg) hsz).mono ?_
  rintro e w' ⟨ob', rfl, h1, h2, h3⟩
  exact ⟨ob', rfl, h1.mono fun g hg => hg.elim id fun h => Nat.le_trans hb.size h, hb.trans (h3.below (fun g hg => hV.all g hg) hb.size)⟩
theorem law_find {w0 wf : World} {vb mb : Nat} {ob : Option Nat} {L : List Tm} (B : Nat → Prop) (t : Tm) (v : Value) (hV : Vlt (fun g => w0.heap.size ≤ g) wf vb mb ob L) (hb : Below w0.heap.size w0 wf) (hv : TmV B wf t v) (ht : txc.Tab w0.heap.size w0) (hsz : szT t ≤ 10000) :
    Calls Tryz.prog 17 #[.pointer (some ⟨vb, 0, none⟩), v] wf fun e w' => e = .returned (.tuple #[.int .i64 (numI t L), .bool (findV t L).isSome]) ∧ Vlt (fun g => w0.heap.size ≤ g) w' vb mb ob L ∧ Below w0.heap.size w0 w' ∧ Below wf.heap.size wf w' := by
  refine (find_any _ B vb mb ob L t v wf hV hv ((ht.on hb).mono hb.size) hsz).mono ?_
  rintro e w' ⟨rfl, h⟩
  exact ⟨rfl, hV.below h, hb.trans (h.mono hb.size), h⟩
theorem blw {w a b : World} (h : Below w.heap.size w a) (k : Below a.heap.size a b) : Below w.heap.size w b := h.trans (k.mono h.size)
/-- The box's cell: how many there are. -/
theorem Vlt.box {S : Nat → Prop} {w : World} {vb mb : Nat} {ob : Option Nat} {L : List Tm} (h : Vlt S w vb mb ob L) : ∃ A c, w.cell? ⟨vb, 0, none⟩ = some (.slice A L.length c) := by
  obtain ⟨A, c, h1, _⟩ := h.cells
  exact ⟨A, c, h1⟩
end Go.Proofs.YtlhogjigdmpokaaGreatDoor.vtc
namespace Go.Proofs.YtlhogjigdmpokaaGreatDoor.vtc
open Go.RowKit Go.Proofs.YtlhogjigdmpokaaGreatDoor.tlvc Go.Proofs.YtlhogjigdmpokaaGreatDoor.tmc
set_option linter.unusedVariables false
/-- A table as a vault has it. -/
structure Good (L : List Tm) : Prop where
  once : Once L
  closed : Closed L
  right : ∀ x ∈ L, rightF x 0 = true
  size : ∀ x ∈ L, szT x ≤ 4096
  len : L.length ≤ 4096
theorem Good.start : Good [] := ⟨fun i j t h => by simp at h, fun i o m d ks h => by simp at h, fun x h => by simp at h, fun x h => by simp at h, by simp⟩
theorem puts_right : ∀ (N : Nat), (∀ t L, szT t ≤ N → rightF t 0 = true → (∀ x ∈ L, rightF x 0 = true) → ∀ x ∈ putV t L, rightF x 0 = true) ∧ (∀ ks L, szTs ks ≤ N → (∀ k ∈ ks, rightF k 0 = true) → (∀ x ∈ L, rightF x 0 = true) → ∀ x ∈ putsV ks L, rightF x 0 = true) := by
  intro N
  induction N with
  | zero =>
    refine ⟨fun t L h => by have := szT_pos t; omega, fun ks L h _ hL => ?_⟩
    cases ks with
    | nil => rw [putsV_nil]; exact hL
    | cons k ks => rw [szTs_two] at h; have := szT_pos k; omega
  | succ N ih =>
    have h1 : ∀ t L, szT t ≤ N + 1 → rightF t 0 = true → (∀ x ∈ L, rightF x 0 = true) → ∀ x ∈ putV t L, rightF x 0 = true := fun t L h hr hL => by
      obtain ⟨o, m, d, ks⟩ := t
      rw [szT_kids] at h
      by_cases hm : Tm.mk o m d ks ∈ L
      · rw [putV_had hm]; exact hL
      · rw [putV_new hm]
        intro x hx
        rcases List.mem_append.1 hx with hx | hx
        · exact ih.2 ks L (by omega) (fun k hk => right_kids hr hk) hL x hx
        · rw [List.mem_singleton.1 hx]; exact hr
    refine ⟨h1, fun ks => ?_⟩
    induction ks with
    | nil => intro L _ _ hL; rw [putsV_nil]; exact hL
    | cons k ks ihk =>
      intro L h hk hL
      rw [szTs_two] at h
      rw [putsV_cons]
      exact ihk _ (by omega) (fun x hx => hk x (List.mem_cons_of_mem _ hx)) (h1 k L (by omega) (hk k (by simp)) hL)
theorem put_right {t : Tm} {L : List Tm} (h : rightF t 0 = true) (hL : ∀ x ∈ L, rightF x 0 = true) : ∀ x ∈ putV t L, rightF x 0 = true := (puts_right _).1 t L (Nat.le_refl _) h hL
/-- What an error says. -/
theorem intern_err {t : Tm} {L L' : List Tm} {k e : Int} (hin : internV t L = (k, e, L')) (he : e ≠ 0) : k = -1 ∧ L' = L ∧ ((e = 51 ∧ rightF t 0 = false) ∨ (e = 2 ∧ rightF t 0 = true ∧ t ∉ L ∧ 4096 < L.length + szT t)) := by
  cases hr : rightF t 0 with
  | false =>
    rw [intern_no hr] at hin
    cases hin
    exact ⟨rfl, rfl, .inl ⟨rfl, rfl⟩⟩
  | true =>
    cases hf : findV t L with
    | some i => rw [intern_had hr hf] at hin; cases hin; exact absurd rfl he
    | none =>
      by_cases hl : L.length + szT t ≤ 4096
      · rw [intern_new hr hf hl] at hin; cases hin; exact absurd rfl he
      · rw [intern_full hr hf hl] at hin
        cases hin
        exact ⟨rfl, rfl, .inr ⟨rfl, rfl, findV_none.1 hf, by omega⟩⟩
/-- What a handle says. -/
theorem intern_ok {t : Tm} {L L' : List Tm} {k : Int} (h : Good L) (hin : internV t L = (k, 0, L')) : ∃ i : Nat, k = (i : Int) ∧ L'[i]? = some t ∧ rightF t 0 = true ∧ L <+: L' ∧ Good L' := by
  cases hr : rightF t 0 with
  | false => rw [intern_no hr] at hin; cases hin
  | true =>
    cases hf : findV t L with
    | some i =>
      rw [intern_had hr hf] at hin
      cases hin
      exact ⟨i, rfl, (findV_some hf).1, rfl, List.prefix_refl _, h⟩
    | none =>
      by_cases hl : L.length + szT t ≤ 4096
      · rw [intern_new hr hf hl] at hin
        cases hin
        obtain ⟨h1, h2⟩ := put_last (findV_none.1 hf)
        obtain ⟨h3, h4⟩ := put_once (t := t) h.once h.closed
        have h5 := put_one t L
        refine ⟨(putV t L).length - 1, by omega, h1, rfl, h5.pre, h3, h4, put_right hr h.right, fun x hx => ?_, by have := h5.len; omega⟩
        rcases h5.size x hx with hx | hx
        · exact h.size x hx
        · omega
      · rw [intern_full hr hf hl] at hin; cases hin
theorem good_intern {L : List Tm} (h : Good L) (t : Tm) : Good (internV t L).2.2 ∧ L <+: (internV t L).2.2 := by
  obtain ⟨⟨k, e, L'⟩, hin⟩ : ∃ r, internV t L = r := ⟨_, rfl⟩
  rw [hin]
  by_cases he : e = 0
  · subst he
    obtain ⟨i, _, _, _, h1, h2⟩ := intern_ok h hin
    exact ⟨h2, h1⟩
  · obtain ⟨_, rfl, _⟩ := intern_err hin he
    exact ⟨h, List.prefix_refl _⟩
/-- Made again it is what it was. -/
theorem intern_again {t : Tm} {L L1 L2 : List Tm} {k e : Int} (h : Good L) (hin : internV t L = (k, e, L1)) (h2 : Good L2) (hp : L1 <+: L2) (hn : e = 2 → t ∉ L2) : internV t L2 = (k, e, L2) := by
  by_cases he : e = 0
  · subst he
    obtain ⟨i, rfl, hi, hr, _, _⟩ := intern_ok h hin
    exact intern_had hr ((findV_once h2.once).2 (prefix_get hp hi))
  · obtain ⟨rfl, rfl, ⟨rfl, hr⟩ | ⟨rfl, hr, _, hl⟩⟩ := intern_err hin he
    · exact intern_no hr
    · exact intern_full hr (findV_none.2 (hn rfl)) (by have := hp.length_le; omega)
/-- The term of a handle. -/
def hand (L : List Tm) (n : Int) : Option Tm := if 0 ≤ n then L[n.toNat]? else none
theorem hand_nat (L : List Tm) (i : Nat) : hand L (i : Int) = L[i]? := by unfold hand; rw [if_pos (by omega)]; rfl
theorem hand_some {L : List Tm} {n : Int} {t : Tm} (h : hand L n = some t) : ∃ i : Nat, n = (i : Int) ∧ L[i]? = some t := by
  unfold hand at h
  split at h
  · exact ⟨n.toNat, by omega, h⟩
  · cases h
theorem hand_none {L : List Tm} {n : Int} (h : hand L n = none) : n < 0 ∨ (L.length : Int) ≤ n := by
  unfold hand at h
  split at h
  · have := List.getElem?_eq_none_iff.1 h; omega
  · omega
theorem hand_out {L : List Tm} {n : Int} (h : n < 0 ∨ (L.length : Int) ≤ n) : hand L n = none := by
  unfold hand
  split
  · exact List.getElem?_eq_none_iff.2 (by omega)
  · rfl
theorem hand_pre {L L' : List Tm} (hp : L <+: L') {n : Int} {t : Tm} (h : hand L n = some t) : hand L' n = some t := by
  obtain ⟨i, rfl, hi⟩ := hand_some h
  rw [hand_nat]
  exact prefix_get hp hi
theorem hand_inj {L : List Tm} (ho : Once L) {a b : Int} {t : Tm} (h : hand L a = some t) (k : hand L b = some t) : a = b := by
  obtain ⟨i, rfl, hi⟩ := hand_some h
  obtain ⟨j, rfl, hj⟩ := hand_some k
  rw [ho i j t hi hj]
theorem hand_mem {L : List Tm} {n : Int} {t : Tm} (h : hand L n = some t) : t ∈ L := by
  obtain ⟨i, _, hi⟩ := hand_some h
  exact List.mem_of_getElem? hi
/-- A term of a key, and bytes. -/
def ofF (L : List Tm) (op key : Int) (msg : List Int) : Int × Int × List Tm := match hand L key with
  | some t => internV (.mk op 0 msg [t]) L
  | none => (-1, 71, L)
theorem of_some {L : List Tm} {op key : Int} {msg : List Int} {t : Tm} (h : hand L key = some t) : ofF L op key msg = internV (.mk op 0 msg [t]) L := by unfold ofF; rw [h]
theorem of_none {L : List Tm} {op key : Int} {msg : List Int} (h : hand L key = none) : ofF L op key msg = (-1, 71, L) := by unfold ofF; rw [h]
theorem good_of {L : List Tm} (h : Good L) (op key : Int) (msg : List Int) : Good (ofF L op key msg).2.2 ∧ L <+: (ofF L op key msg).2.2 := by
  cases hk : hand L key with
  | some t => rw [of_some hk]; exact good_intern h _
  | none => rw [of_none hk]; exact ⟨h, List.prefix_refl _⟩
/-- Whether a term of a key is right hangs on its operation alone. -/
theorem of_right {op op' : Int} {msg msg' : List Int} {t : Tm} (h : rightF (.mk op 0 msg [t]) 0 = true) (ha : aloneB op' 0 msg'.length 1 = true) : rightF (.mk op' 0 msg' [t]) 0 = true := by
  obtain ⟨h1, h2, h3, h4⟩ := right_mk.1 h
  exact right_mk.2 ⟨h1, ha, h3, h4⟩
theorem size_of (op : Int) (msg : List Int) (t : Tm) : szT (.mk op 0 msg [t]) = szT t + 1 := by
  rw [szT_kids, szTs_two]
  show szT t + szTs [] + 1 = _
  have : szTs [] = 0 := by unfold szTs; rfl
  omega
/-- What is sealed, opened. -/
def openF (L : List Tm) (key sealed : Int) : Option (List Int) := match hand L key, hand L sealed with
  | some k, some (.mk o _ d (x :: _)) => if o = 4 ∧ alikeB x k = true then some d else none
  | _, _ => none
/-- Is it a signature by that key's other half over these bytes? -/
def verifyF (L : List Tm) (pub : Int) (msg : List Int) (sig : Int) : Bool := match hand L pub, hand L sig with
  | some (.mk p _ _ (x :: _)), some (.mk s _ d (y :: _)) => decide (p = 2 ∧ s = 3 ∧ d = msg ∧ alikeB x y = true)
  | _, _ => false
theorem open_of {L : List Tm} {key sealed o m : Int} {d : List Int} {k x : Tm} {xs : List Tm} (h : hand L key = some k) (hs : hand L sealed = some (.mk o m d (x :: xs))) : openF L key sealed = if o = 4 ∧ alikeB x k = true then some d else none := by unfold openF; rw [h, hs]
theorem verify_of {L : List Tm} {pub sig p s m n : Int} {msg c d : List Int} {x y : Tm} {xs ys : List Tm} (h : hand L pub = some (.mk p m c (x :: xs))) (hs : hand L sig = some (.mk s n d (y :: ys))) : verifyF L pub msg sig = decide (p = 2 ∧ s = 3 ∧ d = msg ∧ alikeB x y = true) := by unfold verifyF; rw [h, hs]
/-- One refused, the law of seals asks little. -/
theorem seals_err {L L1 L2 L3 L4 : List Tm} {key other : Int} {msg : List Int} {s g p q e f h i : Int} (hL : Good L) (h1 : ofF L 4 key msg = (s, e, L1)) (h2 : ofF L1 3 key msg = (g, f, L2)) (h3 : ofF L2 2 key [] = (p, h, L3)) (h4 : ofF L3 2 other [] = (q, i, L4)) (hne : e ≠ 0 ∨ f ≠ 0 ∨ h ≠ 0 ∨ i ≠ 0) :
    (e = f ∧ f = h) ∨ i ≠ 0 ∨ e = 51 ∨ e = 2 ∨ f = 2 ∨ h = 2 := by
  cases hk : hand L key with
  | none =>
    rw [of_none hk] at h1
    cases h1
    rw [of_none hk] at h2
    cases h2
    rw [of_none hk] at h3
    cases h3
    exact .inl ⟨rfl, rfl⟩
  | some kt =>
    rw [of_some hk] at h1
    by_cases he : e = 0
    · subst he
      obtain ⟨_, _, _, hr, hp1, hg1⟩ := intern_ok hL h1
      have hk1 := hand_pre hp1 hk
      rw [of_some hk1] at h2
      have hal : aloneB 3 0 msg.length 1 = true := by
        have h5 := (right_mk.1 hr).2.1
        unfold aloneB at h5 ⊢
        simpa using h5
      by_cases hf : f = 0
      · subst hf
        obtain ⟨_, _, _, _, hp2, hg2⟩ := intern_ok hg1 h2
        rw [of_some (hand_pre hp2 hk1)] at h3
        by_cases hh : h = 0
        · exact .inr (.inl (by omega))
        · obtain ⟨_, _, ⟨_, hr2⟩ | ⟨hh2, _⟩⟩ := intern_err h3 hh
          · rw [of_right hr (op' := 2) (msg' := []) (by decide)] at hr2; cases hr2
          · exact .inr (.inr (.inr (.inr (.inr hh2))))
      · obtain ⟨_, _, ⟨_, hr2⟩ | ⟨hf2, _⟩⟩ := intern_err h2 hf
        · rw [of_right hr hal] at hr2; cases hr2
        · exact .inr (.inr (.inr (.inr (.inl hf2))))
    · obtain ⟨_, _, ⟨he2, _⟩ | ⟨he2, _⟩⟩ := intern_err h1 he
      · exact .inr (.inr (.inl he2))
      · exact .inr (.inr (.inr (.inl he2)))
/-- All made: what stands where. -/
theorem of_ok {L L' : List Tm} {op key k : Int} {msg : List Int} (hL : Good L) (h : ofF L op key msg = (k, 0, L')) : ∃ t, hand L key = some t ∧ hand L' key = some t ∧ hand L' k = some (.mk op 0 msg [t]) ∧ L <+: L' ∧ Good L' := by
  cases hk : hand L key with
  | none => rw [of_none hk] at h; cases h
  | some t =>
    rw [of_some hk] at h
    obtain ⟨i, rfl, hi, _, hp, hg⟩ := intern_ok hL h
    exact ⟨t, rfl, hand_pre hp hk, by rw [hand_nat]; exact hi, hp, hg⟩
theorem seals_ok {L L1 L2 L3 L4 : List Tm} {key other : Int} {msg : List Int} {s g p q : Int} (hL : Good L) (h1 : ofF L 4 key msg = (s, 0, L1)) (h2 : ofF L1 3 key msg = (g, 0, L2)) (h3 : ofF L2 2 key [] = (p, 0, L3)) (h4 : ofF L3 2 other [] = (q, 0, L4)) :
    Good L4 ∧ openF L4 key s = some msg ∧ (openF L4 other s).isSome = decide (key = other) ∧ decide (p = q) = decide (key = other) ∧ (∀ m, verifyF L4 p m g = decide (m = msg)) ∧ verifyF L4 q msg g = decide (p = q) ∧ verifyF L4 p msg s = false := by
  obtain ⟨t1, a1, a2, a3, p1, g1⟩ := of_ok hL h1
  obtain ⟨t2, b1, b2, b3, p2, g2⟩ := of_ok g1 h2
  obtain ⟨t3, c1, c2, c3, p3, g3⟩ := of_ok g2 h3
  obtain ⟨t4, d1, d2, d3, p4, g4⟩ := of_ok g3 h4
  have e2 : t2 = t1 := Option.some.inj (b1.symm.trans a2)
  subst e2
  have e3 : t3 = t2 := Option.some.inj (c1.symm.trans b2)
  subst e3
  have hkey := hand_pre p4 c2
  have hs := hand_pre p4 (hand_pre p3 (hand_pre p2 a3))
  have hg := hand_pre p4 (hand_pre p3 b3)
  have hp := hand_pre p4 c3
  have hko : key = other ↔ t3 = t4 := ⟨fun e => by rw [e, d2] at hkey; exact (Option.some.inj hkey).symm, fun e => hand_inj g4.once hkey (by rw [e]; exact d2)⟩
  have hpq : p = q ↔ t3 = t4 := ⟨fun e => by
    rw [e, d3] at hp
    have := Option.some.inj hp
    simp only [Tm.mk.injEq, List.cons.injEq, and_true, true_and] at this
    exact this.symm, fun e => hand_inj g4.once hp (by rw [e]; exact d3)⟩
  refine ⟨g4, ?_, ?_, ?_, fun m => ?_, ?_, ?_⟩
  · rw [open_of hkey hs, if_pos ⟨rfl, alike_iff.2 rfl⟩]
  · rw [open_of d2 hs]
    by_cases h : t3 = t4
    · rw [if_pos ⟨rfl, alike_iff.2 h⟩, decide_eq_true (hko.2 h)]; rfl
    · rw [if_neg (fun e => h (alike_iff.1 e.2)), decide_eq_false (fun e => h (hko.1 e))]; rfl
  · rw [decide_eq_decide, hko, hpq]
  · rw [verify_of hp hg, decide_eq_decide]
    exact ⟨fun h => h.2.2.1.symm, fun h => ⟨rfl, rfl, h.symm, alike_iff.2 rfl⟩⟩
  · rw [verify_of d3 hg, decide_eq_decide, hpq]
    exact ⟨fun h => (alike_iff.1 h.2.2.2).symm, fun h => ⟨rfl, rfl, rfl, alike_iff.2 h.symm⟩⟩
  · rw [verify_of hp hs]
    exact decide_eq_false fun h => by have := h.2.1; omega
/-- Made again, all three. -/
theorem of_again {L L1 L2 : List Tm} {op key k e : Int} {msg : List Int} (hL : Good L) (h : ofF L op key msg = (k, e, L1)) (h2 : Good L2) (hp : L1 <+: L2) (hn : e = 71 → hand L2 key = none) (hf : ∀ t, hand L key = some t → e = 2 → Tm.mk op 0 msg [t] ∉ L2) : ofF L2 op key msg = (k, e, L2) := by
  cases hk : hand L key with
  | none =>
    rw [of_none hk] at h
    cases h
    exact of_none (hn rfl)
  | some t =>
    rw [of_some hk] at h
    have hp0 : L <+: L1 := by have := (good_intern hL (.mk op 0 msg [t])).2; rw [h] at this; exact this
    rw [of_some (hand_pre (hp0.trans hp) hk)]
    exact intern_again hL h h2 hp (hf t hk)
/-- A term of a key adds itself alone. -/
theorem of_mem {L L1 : List Tm} {op key k e : Int} {msg : List Int} {t : Tm} (hk : hand L key = some t) (h : ofF L op key msg = (k, e, L1)) : ∀ x ∈ L1, x ∈ L ∨ x = .mk op 0 msg [t] := by
  rw [of_some hk] at h
  have hput : ∀ x ∈ putV (.mk op 0 msg [t]) L, x ∈ L ∨ x = .mk op 0 msg [t] := fun x hx => by
    by_cases hm : Tm.mk op 0 msg [t] ∈ L
    · rw [putV_had hm] at hx; exact .inl hx
    · rw [putV_new hm, putsV_cons, putsV_nil, putV_had (hand_mem hk)] at hx
      rcases List.mem_append.1 hx with hx | hx
      · exact .inl hx
      · exact .inr (List.mem_singleton.1 hx)
  intro x hx
  cases hr : rightF (.mk op 0 msg [t]) 0 with
  | false => rw [intern_no hr] at h; cases h; exact .inl hx
  | true =>
    cases hf : findV (.mk op 0 msg [t]) L with
    | some i => rw [intern_had hr hf] at h; cases h; exact .inl hx
    | none =>
      by_cases hl : L.length + szT (.mk op 0 msg [t]) ≤ 4096
      · rw [intern_new hr hf hl] at h; cases h; exact hput x hx
      · rw [intern_full hr hf hl] at h; cases h; exact .inl hx
theorem of_two {L L1 : List Tm} {op key k : Int} {msg : List Int} {t : Tm} (hk : hand L key = some t) (h : ofF L op key msg = (k, 2, L1)) : L1 = L ∧ Tm.mk op 0 msg [t] ∉ L := by
  rw [of_some hk] at h
  obtain ⟨_, h1, ⟨h2, _⟩ | ⟨_, _, h2, _⟩⟩ := intern_err h (by decide)
  · cases h2
  · exact ⟨h1, h2⟩
theorem of_good {L L1 : List Tm} {op key k e : Int} {msg : List Int} (hL : Good L) (h : ofF L op key msg = (k, e, L1)) : Good L1 ∧ L <+: L1 := by
  have := good_of hL op key msg
  rw [h] at this
  exact this
/-- All three made again. -/
theorem again_all {L L1 L2 L3 : List Tm} {key a b c e f g : Int} {msg : List Int} (hL : Good L) (h1 : ofF L 3 key msg = (a, e, L1)) (h2 : ofF L1 4 key msg = (b, f, L2)) (h3 : ofF L2 6 key msg = (c, g, L3)) :
    Good L3 ∧ ofF L3 3 key msg = (a, e, L3) ∧ ofF L3 4 key msg = (b, f, L3) ∧ ofF L3 6 key msg = (c, g, L3) ∧ (e = 0 → f = 0 → g = 0 → a ≠ b ∧ b ≠ c ∧ a ≠ c) := by
  obtain ⟨g1, p1⟩ := of_good hL h1
  obtain ⟨g2, p2⟩ := of_good g1 h2
  obtain ⟨g3, p3⟩ := of_good g2 h3
  cases hk : hand L key with
  | none =>
    rw [of_none hk] at h1
    cases h1
    rw [of_none hk] at h2
    cases h2
    rw [of_none hk] at h3
    cases h3
    exact ⟨g3, of_none hk, of_none hk, of_none hk, fun h => by cases h⟩
  | some t =>
    have k1 := hand_pre p1 hk
    have k2 := hand_pre p2 k1
    have k3 := hand_pre p3 k2
    have n71 : ∀ {L' L'' : List Tm} {op k e : Int}, hand L' key = some t → ofF L' op key msg = (k, e, L'') → e = 71 → hand L3 key = none := fun hh ho he => by
      rw [of_some hh] at ho
      subst he
      obtain ⟨_, _, ⟨h, _⟩ | ⟨h, _⟩⟩ := intern_err ho (by decide) <;> cases h
    refine ⟨g3, of_again hL h1 g3 (p2.trans p3) (n71 hk h1) (fun t' ht' he hm => ?_), of_again g1 h2 g3 p3 (n71 k1 h2) (fun t' ht' he hm => ?_), of_again g2 h3 g3 (List.prefix_refl _) (n71 k2 h3) (fun t' ht' he hm => ?_), fun he hf hg => ?_⟩
    · obtain rfl : t' = t := Option.some.inj (ht'.symm.trans hk)
      subst he
      obtain ⟨e1, hno⟩ := of_two hk h1
      rcases of_mem k2 h3 _ hm with hm | hm
      · rcases of_mem k1 h2 _ hm with hm | hm
        · rw [e1] at hm; exact hno hm
        · simp only [Tm.mk.injEq] at hm; omega
      · simp only [Tm.mk.injEq] at hm; omega
    · obtain rfl : t' = t := Option.some.inj (ht'.symm.trans k1)
      subst he
      obtain ⟨e1, hno⟩ := of_two k1 h2
      rcases of_mem k2 h3 _ hm with hm | hm
      · rw [e1] at hm; exact hno hm
      · simp only [Tm.mk.injEq] at hm; omega
    · obtain rfl : t' = t := Option.some.inj (ht'.symm.trans k2)
      subst he
      obtain ⟨e1, hno⟩ := of_two k2 h3
      rw [e1] at hm; exact hno hm
    · subst he hf hg
      obtain ⟨t1, _, _, a3, q1, _⟩ := of_ok hL h1
      obtain ⟨t2, _, _, b3, q2, _⟩ := of_ok g1 h2
      obtain ⟨t3, _, _, c3, q3, _⟩ := of_ok g2 h3
      have ha := hand_pre q3 (hand_pre q2 a3)
      have hb := hand_pre q3 b3
      refine ⟨fun h => ?_, fun h => ?_, fun h => ?_⟩
      · rw [h, hb] at ha; have := Option.some.inj ha; simp only [Tm.mk.injEq] at this; omega
      · rw [h, c3] at hb; have := Option.some.inj hb; simp only [Tm.mk.injEq] at this; omega
      · rw [h, c3] at ha; have := Option.some.inj ha; simp only [Tm.mk.injEq] at this; omega
/-- A power of what two handles have. -/
def powL (L : List Tm) (b x : Int) : Int × Int × List Tm := match hand L b, hand L x with
  | some bt, some xt => match powF bt xt with
    | some p => internV p L
    | none => (-1, 72, L)
  | _, _ => (-1, 71, L)
theorem powL_some {L : List Tm} {b x : Int} {bt xt p : Tm} (hb : hand L b = some bt) (hx : hand L x = some xt) (hp : powF bt xt = some p) : powL L b x = internV p L := by unfold powL; rw [hb, hx]; show (match powF bt xt with | some p => internV p L | none => (-1, 72, L)) = _; rw [hp]
theorem powL_kind {L : List Tm} {b x : Int} {bt xt : Tm} (hb : hand L b = some bt) (hx : hand L x = some xt) (hp : powF bt xt = none) : powL L b x = (-1, 72, L) := by unfold powL; rw [hb, hx]; show (match powF bt xt with | some p => internV p L | none => (-1, 72, L)) = _; rw [hp]
theorem powL_none {L : List Tm} {b x : Int} (h : hand L b = none ∨ hand L x = none) : powL L b x = (-1, 71, L) := by
  unfold powL
  rcases h with h | h
  · rw [h]
  · rw [h]; cases hand L b <;> rfl
theorem powL_ok {L L' : List Tm} {b x r : Int} (h : powL L b x = (r, 0, L')) : ∃ bt xt p, hand L b = some bt ∧ hand L x = some xt ∧ powF bt xt = some p ∧ internV p L = (r, 0, L') := by
  cases hb : hand L b with
  | none => rw [powL_none (.inl hb)] at h; cases h
  | some bt =>
    cases hx : hand L x with
    | none => rw [powL_none (.inr hx)] at h; cases h
    | some xt =>
      cases hp : powF bt xt with
      | none => rw [powL_kind hb hx hp] at h; cases h
      | some p => rw [powL_some hb hx hp] at h; exact ⟨bt, xt, p, rfl, rfl, hp, h⟩
theorem good_pow {L : List Tm} (h : Good L) (b x : Int) : Good (powL L b x).2.2 ∧ L <+: (powL L b x).2.2 := by
  cases hb : hand L b with
  | none => rw [powL_none (.inl hb)]; exact ⟨h, List.prefix_refl _⟩
  | some bt =>
    cases hx : hand L x with
    | none => rw [powL_none (.inr hx)]; exact ⟨h, List.prefix_refl _⟩
    | some xt =>
      cases hp : powF bt xt with
      | none => rw [powL_kind hb hx hp]; exact ⟨h, List.prefix_refl _⟩
      | some p => rw [powL_some hb hx hp]; exact good_intern h p
/-- Whoever was first. -/
theorem pow_same {L L5 L6 : List Tm} {p q x y r s : Int} {xt yt : Tm} (hL : Good L) (hp : hand L p = some (.mk 7 0 [] [xt])) (hq : hand L q = some (.mk 7 0 [] [yt])) (hx : hand L x = some xt) (hy : hand L y = some yt) (h1 : powL L p y = (r, 0, L5)) (h2 : powL L5 q x = (s, 0, L6)) : r = s := by
  have hone : ∀ {z : Int} {zt : Tm}, hand L z = some (.mk 7 0 [] [zt]) → powF exp0 zt = some (.mk 7 0 [] [zt]) := fun hz => by
    have hr := hL.right _ (hand_mem hz)
    unfold powF
    rw [if_pos ⟨exp0_right, right_kids hr (by simp), rfl⟩, pow0_one, if_pos hr]
  obtain ⟨b1, c1, P, e1, e2, e3, e4⟩ := powL_ok h1
  obtain ⟨i, rfl, hi, _, hp5, hg5⟩ := intern_ok hL e4
  obtain ⟨b2, c2, P2, f1, f2, f3, f4⟩ := powL_ok h2
  obtain ⟨j, rfl, hj, _, hp6, hg6⟩ := intern_ok hg5 f4
  obtain rfl := Option.some.inj (e1.symm.trans hp)
  obtain rfl := Option.some.inj (e2.symm.trans hy)
  obtain rfl := Option.some.inj (f1.symm.trans (hand_pre hp5 hq))
  obtain rfl := Option.some.inj (f2.symm.trans (hand_pre hp5 hx))
  have he : P = P2 := Option.some.inj ((e3.symm.trans (pow_two (hone hp) (hone hq))).trans f3)
  subst he
  rw [hg6.once i j P (prefix_get hp6 hi) hj]
theorem hash_same {L L1 L2 : List Tm} {a b : List Int} {h k : Int} (hL : Good L) (h1 : internV (.mk 5 0 a []) L = (h, 0, L1)) (h2 : internV (.mk 5 0 b []) L1 = (k, 0, L2)) : decide (h = k) = decide (a = b) := by
  obtain ⟨i, rfl, hi, _, _, g1⟩ := intern_ok hL h1
  obtain ⟨j, rfl, hj, _, p2, g2⟩ := intern_ok g1 h2
  have hi2 := prefix_get p2 hi
  rw [decide_eq_decide]
  constructor
  · intro e
    have e : i = j := by omega
    rw [e, hj] at hi2
    have := Option.some.inj hi2
    simp only [Tm.mk.injEq] at this
    exact this.2.2.1.symm
  · rintro rfl
    rw [g2.once i j _ hi2 hj]
/-- What opens was sealed; what is verified was signed. -/
theorem open_op {L : List Tm} {k s : Int} {x : List Int} (h : openF L k s = some x) : ∃ m d ks, hand L s = some (.mk 4 m d ks) := by
  unfold openF at h
  split at h
  · rename_i o m d x' ks hk hs
    split at h
    · rename_i hc
      obtain ⟨rfl, _⟩ := hc
      exact ⟨_, _, _, hs⟩
    · cases h
  · cases h
theorem verify_op {L : List Tm} {p s : Int} {msg : List Int} (h : verifyF L p msg s = true) : ∃ m d ks, hand L s = some (.mk 3 m d ks) := by
  unfold verifyF at h
  split at h
  · rename_i hp hs
    have := of_decide_eq_true h
    obtain ⟨_, rfl, _⟩ := this
    exact ⟨_, _, _, hs⟩
  · cases h
end Go.Proofs.YtlhogjigdmpokaaGreatDoor.vtc
