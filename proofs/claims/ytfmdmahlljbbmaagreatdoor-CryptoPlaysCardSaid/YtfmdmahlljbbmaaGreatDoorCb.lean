/- How terms are made of the terms of handles: the program's closures, and made. -/
import Derived.Test.YtfmdmahlljbbmaaGreatDoorCa
import Derived.Test.YtfmdmahlljbbmaaGreatDoorTf
namespace Go.Proofs.YtfmdmahlljbbmaaGreatDoor.vtc
open Go.RowKit Go.Proofs.YtfmdmahlljbbmaaGreatDoor.tlvc Go.Proofs.YtfmdmahlljbbmaaGreatDoor.tmc
set_option linter.unusedVariables false
/-- The terms of handles. -/
def handsF (L : List Tm) : List Int → Option (List Tm)
  | [] => some []
  | n :: ns => match hand L n, handsF L ns with
    | some t, some ts => some (t :: ts)
    | _, _ => none
theorem handsF_some {L : List Tm} : ∀ {hs : List Int} {ts : List Tm}, ts.length = hs.length → (∀ j, j < hs.length → hand L (hs.getD j 0) = ts[j]?) → handsF L hs = some ts
  | [], [], _, _ => rfl
  | [], _ :: _, h, _ => by simp at h
  | _ :: _, [], h, _ => by simp at h
  | n :: ns, t :: ts, hl, h => by
    have h0 : hand L n = some t := h 0 (by simp)
    have h1 := handsF_some (hs := ns) (ts := ts) (by simpa using hl) (fun j hj => by have := h (j + 1) (by simpa using hj); simpa using this)
    unfold handsF
    rw [h0, h1]
theorem handsF_none {L : List Tm} : ∀ {hs : List Int} {j : Nat}, j < hs.length → hand L (hs.getD j 0) = none → handsF L hs = none
  | n :: ns, 0, _, h => by
    have h : hand L n = none := h
    unfold handsF
    rw [h]
  | n :: ns, j + 1, hj, h => by
    have h1 := handsF_none (hs := ns) (j := j) (by simpa using hj) (by simpa using h)
    unfold handsF
    rw [h1]
    cases hand L n <;> rfl
theorem handsF_nil (L : List Tm) : handsF L [] = some [] := rfl
theorem handsF_one (L : List Tm) (n : Int) : handsF L [n] = (hand L n).map fun t => [t] := by
  unfold handsF
  rw [handsF_nil]
  cases hand L n <;> rfl
theorem handsF_two (L : List Tm) (a b : Int) : handsF L [a, b] = (match hand L a, hand L b with | some s, some t => some [s, t] | _, _ => none) := by
  unfold handsF
  rw [handsF_one]
  cases hand L a <;> cases hand L b <;> rfl
section
variable {S : Nat → Prop} {vb mb : Nat} {ob : Option Nat} {L : List Tm} {A : Option Addr} {n c : Nat} {hs : List Int} {w : World}
theorem termsOf_some (hV : Vlt S w vb mb ob L) (hsz : ∀ x ∈ L, szT x ≤ 4096) (hi : Ins w A n hs) (hnc : n ≤ c) (hcm : c ≤ maxLen) (hn : n ≤ 1000) {ts : List Tm} (hh : handsF L hs = some ts) :
    Calls Tryz.prog 39 #[.pointer (some ⟨vb, 0, none⟩), .slice A n c] w fun e w' => ∃ A' c', e = .returned (.tuple #[.slice A' n c', .bool true]) ∧ ts.length = n ∧ n ≤ c' ∧ c' ≤ maxLen ∧ TmsZ (fun g => w.heap.size ≤ g) w' A' ts ∧ Below w.heap.size w w' := by
  refine (termsOf_any S vb mb ob L A n c hs w hV hsz hi hnc hcm hn).mono ?_
  rintro e w' ⟨hb, ⟨ts', A', c', rfl, h1, h2, h3, h4, h5⟩ | ⟨rfl, j, hj, h1⟩⟩
  · have e := handsF_some h1 h2
    rw [hh] at e
    cases e
    rw [hi.1] at h3 ⊢
    exact ⟨A', c', rfl, h1.trans hi.1, h3, h4, h5, hb⟩
  · rw [handsF_none hj h1] at hh
    cases hh
theorem termsOf_none (hV : Vlt S w vb mb ob L) (hsz : ∀ x ∈ L, szT x ≤ 4096) (hi : Ins w A n hs) (hnc : n ≤ c) (hcm : c ≤ maxLen) (hn : n ≤ 1000) (hh : handsF L hs = none) :
    Calls Tryz.prog 39 #[.pointer (some ⟨vb, 0, none⟩), .slice A n c] w fun e w' => e = .returned (.tuple #[.slice none 0 0, .bool false]) ∧ Below w.heap.size w w' := by
  refine (termsOf_any S vb mb ob L A n c hs w hV hsz hi hnc hcm hn).mono ?_
  rintro e w' ⟨hb, ⟨ts', A', c', rfl, h1, h2, h3, h4, h5⟩ | ⟨rfl, j, hj, h1⟩⟩
  · rw [handsF_some h1 h2] at hh
    cases hh
  · exact ⟨rfl, hb⟩
end
theorem termsOf_nil (A : Option Addr) (n c : Nat) (w : World) : Calls Tryz.prog 39 #[.pointer none, .slice A n c] w fun e w' => e = .returned (.tuple #[.slice none 0 0, .bool false]) ∧ w' = w := by
  go_enter Tryz.func39, Tryz.ntmps39
  go_wp2
  go_ret2
  exact ⟨rfl, rfl⟩
/-- A term that a closure makes, or none. -/
def HowPost (Q : Nat → Prop) (W : World) (r : Option Tm) (e : Ending) (w' : World) : Prop := ∃ v, e = .returned (.tuple #[v, .bool r.isSome]) ∧ TmV Q w' (r.getD (.mk 0 0 [] [])) v ∧ Below W.heap.size W w'
def madeF (L : List Tm) (hs : List Int) (T : List Tm → Option Tm) : Int × Int × List Tm := match handsF L hs with
  | none => (-1, 71, L)
  | some ts => match T ts with
    | none => (-1, 72, L)
    | some t => internV t L
theorem made_none {L : List Tm} {hs : List Int} {T : List Tm → Option Tm} (h : handsF L hs = none) : madeF L hs T = (-1, 71, L) := by unfold madeF; rw [h]
theorem made_kind {L : List Tm} {hs : List Int} {T : List Tm → Option Tm} {ts : List Tm} (h : handsF L hs = some ts) (k : T ts = none) : madeF L hs T = (-1, 72, L) := by
  unfold madeF
  rw [h]
  show (match T ts with | none => (-1, 72, L) | some t => internV t L) = _
  rw [k]
theorem made_some {L : List Tm} {hs : List Int} {T : List Tm → Option Tm} {ts : List Tm} {t : Tm} (h : handsF L hs = some ts) (k : T ts = some t) : madeF L hs T = internV t L := by
  unfold madeF
  rw [h]
  show (match T ts with | none => (-1, 72, L) | some t => internV t L) = _
  rw [k]
theorem InternPost.from {S : Nat → Prop} {vb mb : Nat} {ob : Option Nat} {w W : World} {r : Int × Int × List Tm} {e : Ending} {w' : World} (hb : Below w.heap.size w W) (h : InternPost S vb mb ob W r e w') : InternPost S vb mb ob w r e w' := by
  obtain ⟨ob', he, h1, h2, h3⟩ := h
  have hs := hb.size
  exact ⟨ob', he, h1.mono fun g hg => hg.imp id fun e => by omega, h2.imp id fun ⟨g, e, hg⟩ => ⟨g, e, by omega⟩, (Off.of_below (S := Mut vb mb ob) hb).trans h3 (fun _ _ e => e) (fun _ _ e => e)⟩
set_option maxRecDepth 100000 in
set_option maxHeartbeats 4000000 in
theorem made_any (S B : Nat → Prop) (base vb mb : Nat) (ob : Option Nat) (L : List Tm) (A : Option Addr) (n c : Nat) (hs : List Int) (f : FuncId) (cap : Array Value) (T : List Tm → Option Tm) (w : World) (hV : Vlt S w vb mb ob L) (hsz : ∀ x ∈ L, szT x ≤ 4096) (hi : Ins w A n hs) (hnc : n ≤ c) (hcm : c ≤ maxLen) (hn : n ≤ 1000)
    (ht : txc.Tab base w) (hbase : base ≤ w.heap.size) (hmb : ∀ g, Mut vb mb ob g → base ≤ g) (hB : ∀ g, B g → ¬ Mut vb mb ob g) (hen : ∀ args w, (callFunc f args).run Tryz.prog w = .ok (.enter f args) w)
    (hf : ∀ (ts : List Tm) (A' : Option Addr) (c' : Nat) (W : World), Below w.heap.size w W → handsF L hs = some ts → ts.length = n → TmsZ (fun g => w.heap.size ≤ g) W A' ts → n ≤ c' → c' ≤ maxLen → Calls Tryz.prog f (#[.slice A' n c'] ++ cap) W (HowPost (fun g => B g ∨ w.heap.size ≤ g) W (T ts)))
    (hT : ∀ ts t, handsF L hs = some ts → T ts = some t → szT t ≤ 10000) :
    Calls Tryz.prog 31 #[.pointer (some ⟨vb, 0, none⟩), .func (.func f) #[] cap, .slice A n c] w (InternPost S vb mb ob w (madeF L hs T)) := by
  have HV := Lib.hid hV
  cases hh : handsF L hs with
  | none =>
    rw [made_none hh]
    have HA := Lib.hid (termsOf_none hV hsz hi hnc hcm hn hh)
    clear hf hT hh hV hsz hi hnc hcm hn ht hbase hmb hB
    go_enter Tryz.func31, Tryz.ntmps31
    go_wp2_with (go_at_call 39; refine HA.out.mono ?_; rintro e w1 ⟨rfl, hb1⟩; have HB1 := Lib.hid hb1; clear hb1)
    go_ret2
    exact intern_same HV.out HB1.out _ _
  | some ts =>
    have HA := Lib.hid (termsOf_some hV hsz hi hnc hcm hn hh)
    cases hk : T ts with
    | none =>
      rw [made_kind hh hk]
      have HF := Lib.hid fun A' c' W (h1 : Below w.heap.size w W) h2 h3 h4 h5 => (by have := hf ts A' c' W h1 hh h2 h3 h4 h5; rw [hk] at this; exact this : Calls Tryz.prog f (#[.slice A' n c'] ++ cap) W (HowPost (fun g => B g ∨ w.heap.size ≤ g) W none))
      clear hf hT hh hV hsz hi hnc hcm hn ht hbase hmb hB hk
      go_enter Tryz.func31, Tryz.ntmps31
      go_wp2_with (go_at_call 39; refine HA.out.mono ?_; rintro e w1 ⟨A1, c1, rfl, h1, h2, h3, h4, h5⟩; have HC := Lib.hid (HF.out A1 c1 w1 h5 h1 h4 h2 h3); have HB1 := Lib.hid h5; clear h1 h2 h3 h4 h5)
      refine HC.out.mono ?_
      rintro e w2 ⟨v, rfl, ⟨y0, y1, y2, y3, rfl, hy⟩, hb2⟩
      obtain ⟨o5, m5, A5, la5, ca5, K5, lk5, ck5, rfl, rfl, rfl, rfl⟩ := hy.shape
      have HE := Lib.hid (HB1.out.trans ((hb2.trans ((below_new w2 (.cells #[.int .i64 o5, .int .i64 m5, .slice A5 la5 ca5, .slice K5 lk5 ck5] 57)).mono hb2.size)).mono HB1.out.size))
      clear hy hb2
      go_wp2
      go_ret2
      exact intern_same HV.out HE.out _ _
    | some t =>
      rw [made_some hh hk]
      have HF := Lib.hid fun A' c' W (h1 : Below w.heap.size w W) h2 h3 h4 h5 => (by have := hf ts A' c' W h1 hh h2 h3 h4 h5; rw [hk] at this; exact this : Calls Tryz.prog f (#[.slice A' n c'] ++ cap) W (HowPost (fun g => B g ∨ w.heap.size ≤ g) W (some t)))
      have HIN := Lib.hid fun (W : World) (hW : Below w.heap.size w W) (v : Value) (hv : TmV (fun g => B g ∨ w.heap.size ≤ g) W t v) => intern_any S (fun g => B g ∨ w.heap.size ≤ g) base vb mb ob L t v W (hV.below hW) hv (fun g hg hm => hg.elim (fun h => hB g h hm) (fun h => by have := hV.lt hm; omega)) (ht.on (hW.mono hbase)) (Nat.le_trans hbase hW.size) hmb (hT ts t hh hk)
      clear hf hT hh hV hsz hi hnc hcm hn ht hbase hmb hB hk
      go_enter Tryz.func31, Tryz.ntmps31
      go_wp2_with (go_at_call 39; refine HA.out.mono ?_; rintro e w1 ⟨A1, c1, rfl, h1, h2, h3, h4, h5⟩; have HC := Lib.hid (HF.out A1 c1 w1 h5 h1 h4 h2 h3); have HB1 := Lib.hid h5; clear h1 h2 h3 h4 h5)
      refine HC.out.mono ?_
      rintro e w2 ⟨v, rfl, ⟨y0, y1, y2, y3, rfl, hy⟩, hb2⟩
      obtain ⟨o5, m5, A5, la5, ca5, K5, lk5, ck5, rfl, rfl, rfl, rfl⟩ := hy.shape
      have hb5 := below_new w2 (.cells #[.int .i64 o5, .int .i64 m5, .slice A5 la5 ca5, .slice K5 lk5 ck5] 57)
      have hb25 := HB1.out.trans ((hb2.trans (hb5.mono hb2.size)).mono HB1.out.size)
      have HE := Lib.hid hb25
      have HI5 := Lib.hid (HIN.out _ hb25 (.agg #[.int .i64 o5, .int .i64 m5, .slice A5 la5 ca5, .slice K5 lk5 ck5]) ⟨_, _, _, _, rfl, TmC.below hb5 _ _ _ _ _ hy⟩)
      obtain ⟨b0, b1, b2, b3⟩ := boxT (Below.refl _ _) (heap_new_ w2 (.cells #[.int .i64 o5, .int .i64 m5, .slice A5 la5 ca5, .slice K5 lk5 ck5] 57))
      clear hy hb2 hb5 hb25
      go_wp2_with (go_at_call 29; refine HI5.out.mono ?_; rintro e w4 hp; have HP := Lib.hid (InternPost.from HE.out hp); obtain ⟨ob', rfl, _⟩ := hp)
      go_ret2
      exact HP.out
theorem made_nil (g : Value) (A : Option Addr) (n c : Nat) (w : World) : Calls Tryz.prog 31 #[.pointer none, g, .slice A n c] w fun e w' => e = .returned (.tuple #[.int .i64 (-1), .int .i64 1]) ∧ w' = w := by
  go_enter Tryz.func31, Tryz.ntmps31
  go_wp2
  go_ret2
  exact ⟨rfl, rfl⟩
end Go.Proofs.YtfmdmahlljbbmaaGreatDoor.vtc
