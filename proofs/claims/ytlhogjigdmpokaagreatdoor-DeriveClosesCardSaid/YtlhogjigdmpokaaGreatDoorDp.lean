/- What can be had: the closure of some handles of a table: plain. Nothing here names the program. The closure, as rows of truths tell it: plain. Nothing here names the program. A row of truths that a call makes for itself, as a list. Nothing here names the program. Terms but others, as a loop finds and leaves them out: plain. Nothing here names the program. -/
import Derived.Test.YtlhogjigdmpokaaGreatDoorUg
import Derived.Deep.OwnRows
namespace Go.Proofs.YtlhogjigdmpokaaGreatDoor.vtc
open Go.RowKit Go.Proofs.YtlhogjigdmpokaaGreatDoor.tlvc Go.Proofs.YtlhogjigdmpokaaGreatDoor.tmc
set_option linter.unusedVariables false
/-- A term is had, if its number is. -/
def isH (L : List Tm) (S : Nat → Prop) (t : Tm) : Prop := ∃ i, findV t L = some i ∧ S i
/-- All that bytes mention below a number is had. -/
def allH (S : Nat → Prop) (d : List Int) (n : Nat) : Prop := ∀ m ∈ mentionsF d (n : Int), S m.toNat
/-- Terms but others, each as often as it is there. -/
def withoutF : List Tm → List Tm → Option (List Tm)
  | l, [] => some l
  | l, x :: less => if l.any (fun y => alikeB y x) = true then withoutF (l.eraseP fun y => alikeB y x) less else none
def expH (L : List Tm) (S : Nat → Prop) (ks : List Tm) : Prop := (∀ k ∈ ks, isH L S k) ∨ ∃ n m d ks' rest, S n ∧ L[n]? = some (Tm.mk 7 m d ks') ∧ withoutF ks ks' = some rest ∧ ∀ k ∈ rest, isH L S k
def madeH (L : List Tm) (S : Nat → Prop) (n : Nat) : Prop := ∃ o m d ks, L[n]? = some (Tm.mk o m d ks) ∧ (((o = 2 ∨ o = 3 ∨ o = 4 ∨ o = 6) ∧ (∃ k r, ks = k :: r ∧ isH L S k) ∧ allH S d n) ∨ (o = 5 ∧ allH S d n) ∨ (o = 7 ∧ expH L S ks))
def openH (L : List Tm) (S : Nat → Prop) (n : Nat) : Prop := ∃ i m d k r, S i ∧ L[i]? = some (Tm.mk 4 m d (k :: r)) ∧ isH L S k ∧ (n : Int) ∈ mentionsF d (i : Int)
/-- Nothing more comes of it. -/
structure ClosedH (L : List Tm) (K S : Nat → Prop) : Prop where
  known : ∀ n, n < L.length → K n → S n
  made : ∀ n, madeH L S n → S n
  opened : ∀ n, openH L S n → S n
section
variable {L : List Tm} {S S' K K' : Nat → Prop}
theorem isH_mono (h : ∀ n, S n → S' n) {t : Tm} (k : isH L S t) : isH L S' t := by obtain ⟨i, e, hi⟩ := k; exact ⟨i, e, h i hi⟩
theorem allH_mono (h : ∀ n, S n → S' n) {d : List Int} {n : Nat} (k : allH S d n) : allH S' d n := fun m hm => h _ (k m hm)
theorem expH_mono (h : ∀ n, S n → S' n) {ks : List Tm} (k : expH L S ks) : expH L S' ks := by
  rcases k with k | ⟨n, m, d, ks', rest, h1, h2, h3, h4⟩
  · exact .inl fun x hx => isH_mono h (k x hx)
  · exact .inr ⟨n, m, d, ks', rest, h n h1, h2, h3, fun x hx => isH_mono h (h4 x hx)⟩
theorem madeH_mono (h : ∀ n, S n → S' n) {n : Nat} (k : madeH L S n) : madeH L S' n := by
  obtain ⟨o, m, d, ks, e, k⟩ := k
  refine ⟨o, m, d, ks, e, ?_⟩
  rcases k with ⟨h1, ⟨x, r, h2, h3⟩, h4⟩ | ⟨h1, h2⟩ | ⟨h1, h2⟩
  · exact .inl ⟨h1, ⟨x, r, h2, isH_mono h h3⟩, allH_mono h h4⟩
  · exact .inr (.inl ⟨h1, allH_mono h h2⟩)
  · exact .inr (.inr ⟨h1, expH_mono h h2⟩)
theorem openH_mono (h : ∀ n, S n → S' n) {n : Nat} (k : openH L S n) : openH L S' n := by
  obtain ⟨i, m, d, x, r, h1, h2, h3, h4⟩ := k
  exact ⟨i, m, d, x, r, h i h1, h2, isH_mono h h3, h4⟩
theorem madeH_lt {n : Nat} (k : madeH L S n) : n < L.length := by
  obtain ⟨o, m, d, ks, e, _⟩ := k
  exact (List.getElem?_eq_some_iff.1 e).1
theorem openH_lt {n : Nat} (k : openH L S n) : n < L.length := by
  obtain ⟨i, m, d, x, r, _, h2, _, h4⟩ := k
  have := (List.getElem?_eq_some_iff.1 h2).1
  have := ((mentions_mem _ _ _).1 h4).1
  omega
/-- The closure: what is in all that nothing more comes of. -/
def Cl (L : List Tm) (K : Nat → Prop) (n : Nat) : Prop := n < L.length ∧ ∀ S, ClosedH L K S → S n
theorem cl_sub (h : ClosedH L K S) : ∀ n, Cl L K n → S n := fun n k => k.2 S h
theorem cl_closed : ClosedH L K (Cl L K) :=
  ⟨fun n hn hk => ⟨hn, fun S h => h.known n hn hk⟩, fun n hm => ⟨madeH_lt hm, fun S h => h.made n (madeH_mono (cl_sub h) hm)⟩, fun n ho => ⟨openH_lt ho, fun S h => h.opened n (openH_mono (cl_sub h) ho)⟩⟩
/-- Whatever is closed and holds no more is it. -/
theorem cl_is (h : ClosedH L K S) (k : ∀ n, S n → Cl L K n) (n : Nat) : S n ↔ Cl L K n := ⟨k n, cl_sub h n⟩
theorem cl_mono (h : ∀ n, K n → K' n) : ∀ n, Cl L K n → Cl L K' n := cl_sub ⟨fun n hn hk => cl_closed.known n hn (h n hk), fun n hm => cl_closed.made n hm, fun n ho => cl_closed.opened n ho⟩
theorem cl_idem (n : Nat) : Cl L (Cl L K) n ↔ Cl L K n :=
  ⟨cl_sub ⟨fun n _ hk => hk, fun n hm => cl_closed.made n hm, fun n ho => cl_closed.opened n ho⟩ n, fun h => cl_closed.known n h.1 h⟩
/-- One step of any way to it. -/
theorem cl_made (h : ∀ n, S n → Cl L K n) {n : Nat} (k : madeH L S n) : Cl L K n := cl_closed.made n (madeH_mono h k)
theorem cl_opened (h : ∀ n, S n → Cl L K n) {n : Nat} (k : openH L S n) : Cl L K n := cl_closed.opened n (openH_mono h k)
end
/-- The handles that somebody has, as a list tells them. -/
def KofF (known : List Int) (n : Nat) : Prop := (n : Int) ∈ known
open Classical in
/-- The closure as a list, rising. -/
noncomputable def clF (L : List Tm) (known : List Int) : List Int := ((List.range L.length).filter fun n => decide (Cl L (KofF known) n)).map Int.ofNat
open Classical in
theorem cl_mem {L : List Tm} {known : List Int} (m : Int) : m ∈ clF L known ↔ ∃ n : Nat, m = (n : Int) ∧ Cl L (KofF known) n := by
  unfold clF
  rw [List.mem_map]
  constructor
  · rintro ⟨n, hn, rfl⟩
    rw [List.mem_filter] at hn
    exact ⟨n, rfl, of_decide_eq_true hn.2⟩
  · rintro ⟨n, rfl, h⟩
    exact ⟨n, List.mem_filter.2 ⟨List.mem_range.2 h.1, decide_eq_true h⟩, rfl⟩
theorem cl_nat {L : List Tm} {known : List Int} (n : Nat) : (n : Int) ∈ clF L known ↔ Cl L (KofF known) n := by
  rw [cl_mem]
  exact ⟨fun ⟨k, e, h⟩ => (show n = k from (by omega)) ▸ h, fun h => ⟨n, rfl, h⟩⟩
theorem cl_rise (L : List Tm) (known : List Int) : Rise (clF L known) := by
  unfold clF Rise
  rw [List.pairwise_map]
  refine List.Pairwise.imp (fun h => ?_) (List.Pairwise.sublist List.filter_sublist List.pairwise_lt_range)
  exact Int.ofNat_lt.2 h
/-- Whatever rises and has just these is it. -/
theorem cl_list {L : List Tm} {known l : List Int} (hl : Rise l) (h : ∀ m, m ∈ l ↔ ∃ n : Nat, m = (n : Int) ∧ Cl L (KofF known) n) : l = clF L known :=
  rise_eq hl (cl_rise L known) fun m => (h m).trans (cl_mem m).symm
theorem clF_idem (L : List Tm) (known : List Int) : clF L (clF L known) = clF L known := by
  refine rise_eq (cl_rise _ _) (cl_rise _ _) fun m => ?_
  rw [cl_mem, cl_mem]
  have e : KofF (clF L known) = Cl L (KofF known) := funext fun n => propext (cl_nat n)
  rw [e]
  exact ⟨fun ⟨n, h, k⟩ => ⟨n, h, (cl_idem n).1 k⟩, fun ⟨n, h, k⟩ => ⟨n, h, (cl_idem n).2 k⟩⟩
theorem clF_grows {L : List Tm} {known more : List Int} (m : Int) (h : m ∈ clF L known) : m ∈ clF L (known ++ more) := by
  obtain ⟨n, rfl, hn⟩ := (cl_mem m).1 h
  exact (cl_mem _).2 ⟨n, rfl, cl_mono (fun k hk => List.mem_append_left _ hk) n hn⟩
theorem clF_bd {L : List Tm} {known : List Int} {m : Int} (h : m ∈ clF L known) : 0 ≤ m ∧ m < (L.length : Int) := by
  obtain ⟨n, rfl, hn⟩ := (cl_mem m).1 h
  have := hn.1
  omega
theorem clF_known {L : List Tm} {known : List Int} {m : Int} (h0 : 0 ≤ m) (h1 : m < (L.length : Int)) (h : m ∈ known) : m ∈ clF L known := by
  obtain ⟨n, rfl⟩ : ∃ n : Nat, m = (n : Int) := ⟨m.toNat, by omega⟩
  exact (cl_nat n).2 (cl_closed.known n (by omega) h)
theorem clF_len (L : List Tm) (known : List Int) : (clF L known).length ≤ L.length := by
  unfold clF
  rw [List.length_map]
  exact Nat.le_trans (List.length_filter_le _ _) (by simp)
/-- An atom that nobody has and no sealed text mentions. -/
theorem secret_atom {L : List Tm} {K : Nat → Prop} {x : Nat} {num : Int} {d : List Int} {ks : List Tm} (hx : L[x]? = some (.mk 1 num d ks)) (hk : ¬ K x) (he : ∀ (i : Nat) (m : Int) (d : List Int) (r : List Tm), L[i]? = some (Tm.mk 4 m d r) → (x : Int) ∉ mentionsF d (i : Int)) : ¬ Cl L K x := fun h => by
  have hc : ClosedH L K (fun n => n ≠ x) := ⟨fun n _ hn e => hk (e ▸ hn), fun n hm e => by
    subst e
    obtain ⟨o, m, d', ks', e, hm⟩ := hm
    rw [hx] at e
    cases e
    rcases hm with ⟨h1, _⟩ | ⟨h1, _⟩ | ⟨h1, _⟩ <;> omega, fun n ho e => by
    subst e
    obtain ⟨i, m, d', k, r, _, h2, _, h4⟩ := ho
    exact he i m d' (k :: r) h2 h4⟩
  exact cl_sub hc x h rfl
/-- What is made of it alone. -/
theorem secret_key {L : List Tm} {K : Nat → Prop} {x n : Nat} {num o m : Int} {d d' : List Int} {ks r : List Tm} {a : Tm} (hx : L[x]? = some (.mk 1 num d ks)) (ha : findV a L = some x) (hn : L[n]? = some (.mk o m d' (a :: r))) (ho : o = 2 ∨ o = 3 ∨ o = 4 ∨ o = 6) (hk : ¬ K x) (hkn : ¬ K n)
    (he : ∀ (i : Nat) (m : Int) (d : List Int) (r : List Tm), L[i]? = some (Tm.mk 4 m d r) → (x : Int) ∉ mentionsF d (i : Int) ∧ (n : Int) ∉ mentionsF d (i : Int)) : ¬ Cl L K n := fun h => by
  have hc : ClosedH L K (fun k => k ≠ x ∧ k ≠ n) := ⟨fun k _ h => ⟨fun e => hk (e ▸ h), fun e => hkn (e ▸ h)⟩, fun k hm => ⟨fun e => by
    subst e
    obtain ⟨o', m', d', ks', e, hm⟩ := hm
    rw [hx] at e
    cases e
    rcases hm with ⟨h1, _⟩ | ⟨h1, _⟩ | ⟨h1, _⟩ <;> omega, fun e => by
    subst e
    obtain ⟨o', m', d', ks', e, hm⟩ := hm
    rw [hn] at e
    cases e
    rcases hm with ⟨_, ⟨y, r', e, i, hi, hS⟩, _⟩ | ⟨h1, _⟩ | ⟨h1, _⟩
    · cases e
      rw [ha] at hi
      cases hi
      exact hS.1 rfl
    · omega
    · omega⟩, fun k hopen => by
    obtain ⟨i, m', d', y, r', _, h2, _, h4⟩ := hopen
    have := he i m' d' (y :: r') h2
    exact ⟨fun e => this.1 (e ▸ h4), fun e => this.2 (e ▸ h4)⟩⟩
  exact (cl_sub hc n h).2 rfl
/-- Who has a key and what it sealed has what this mentions. -/
theorem cl_opens {L : List Tm} {K : Nat → Prop} {i key n : Nat} {m : Int} {d : List Int} {k : Tm} {r : List Tm} (hi : L[i]? = some (.mk 4 m d (k :: r))) (hk : findV k L = some key) (hK : K key) (hKi : K i) (hn : (n : Int) ∈ mentionsF d (i : Int)) : Cl L K n := by
  have hkl := findV_lt hk
  have hil := (List.getElem?_eq_some_iff.1 hi).1
  exact cl_closed.opened n ⟨i, m, d, k, r, cl_closed.known i hil hKi, hi, ⟨key, hk, cl_closed.known key hkl hK⟩, hn⟩
/-- Who has a power and an exponent has the power's power. -/
theorem cl_power {L : List Tm} {K : Nat → Prop} {p q y : Nat} {m m' : Int} {d d' : List Int} {ks ks' rest : List Tm} (hp : L[p]? = some (.mk 7 m d ks)) (hq : L[q]? = some (.mk 7 m' d' ks')) (hK : K p) (hw : withoutF ks' ks = some rest) (hr : ∀ k ∈ rest, isH L (Cl L K) k) : Cl L K q :=
  cl_closed.made q ⟨7, m', d', ks', hq, .inr (.inr ⟨rfl, .inr ⟨p, m, d, ks, rest, cl_closed.known p (List.getElem?_eq_some_iff.1 hp).1 hK, hp, hw, hr⟩⟩)⟩
/-- One put in: without the others it stands alone. -/
theorem without_perm : ∀ (less l : List Tm) (x : Tm), l.Perm (x :: less) → ∃ y, withoutF l less = some [y] ∧ y = x
  | [], l, x, h => by
    obtain rfl := List.perm_singleton.1 h
    exact ⟨x, rfl, rfl⟩
  | z :: less, l, x, h => by
    have hz : z ∈ l := h.mem_iff.2 (by simp)
    have ha : l.any (fun y => alikeB y z) = true := List.any_eq_true.2 ⟨z, hz, alike_iff.2 rfl⟩
    obtain ⟨a, l1, l2, _, hp, e1, e2⟩ := List.exists_of_eraseP (p := fun y => alikeB y z) hz (show alikeB z z = true from alike_iff.2 rfl)
    have haz : a = z := alike_iff.1 hp
    rw [haz] at e1
    have hperm : (l.eraseP fun y => alikeB y z).Perm (x :: less) := by
      rw [e2]
      have h2 : (z :: (l1 ++ l2)).Perm (z :: x :: less) := (List.perm_middle.symm.trans (e1 ▸ h)).trans (List.Perm.swap ..)
      exact h2.cons_inv
    obtain ⟨y, h3, h4⟩ := without_perm less _ x hperm
    refine ⟨y, ?_, h4⟩
    conv => lhs; unfold withoutF
    rw [if_pos ha]
    exact h3
end Go.Proofs.YtlhogjigdmpokaaGreatDoor.vtc
namespace Go.Proofs.YtlhogjigdmpokaaGreatDoor.vtc
open Go.RowKit Go.Proofs.YtlhogjigdmpokaaGreatDoor.tlvc Go.Proofs.YtlhogjigdmpokaaGreatDoor.tmc
set_option linter.unusedVariables false
/-- What a row of truths says is had. -/
def SB (hb : List Bool) (n : Nat) : Prop := hb.getD n false = true
theorem SB.lt {hb : List Bool} {n : Nat} (h : SB hb n) : n < hb.length := by
  rcases Nat.lt_or_ge n hb.length with h1 | h1
  · exact h1
  · unfold SB at h
    rw [List.getD_eq_getElem?_getD, List.getElem?_eq_none_iff.2 h1] at h
    cases h
theorem SB.set {hb : List Bool} {n m : Nat} (hn : n < hb.length) : SB (hb.set n true) m ↔ m = n ∨ SB hb m := by
  unfold SB
  rw [List.getD_eq_getElem?_getD, List.getD_eq_getElem?_getD]
  by_cases h : n = m
  · subst h
    rw [List.getElem?_set_self hn]
    exact ⟨fun _ => .inl rfl, fun _ => rfl⟩
  · rw [List.getElem?_set_ne h]
    exact ⟨.inr, fun h1 => h1.elim (fun e => absurd e.symm h) id⟩
def isB (L : List Tm) (hb : List Bool) (t : Tm) : Bool := match findV t L with
  | some i => hb.getD i false
  | none => false
theorem isB_iff {L : List Tm} {hb : List Bool} {t : Tm} : isB L hb t = true ↔ isH L (SB hb) t := by
  unfold isB isH
  cases h : findV t L with
  | none => exact ⟨(fun e => by cases e), (fun ⟨i, e, _⟩ => by cases e)⟩
  | some i => exact ⟨fun e => ⟨i, rfl, e⟩, fun ⟨j, e, k⟩ => by cases e; exact k⟩
def allB (hb : List Bool) (d : List Int) (n : Int) : Bool := (mentionsF d n).all fun m => hb.getD m.toNat false
theorem allB_iff {hb : List Bool} {d : List Int} {n : Nat} : allB hb d (n : Int) = true ↔ allH (SB hb) d n := by
  unfold allB allH SB
  rw [List.all_eq_true]
def powB (L : List Tm) (hb : List Bool) (ks : List Tm) (n : Nat) : Bool := hb.getD n false && (match L[n]? with
  | some (.mk o _ _ ks') => decide (o = 7) && (match withoutF ks ks' with
    | some rest => rest.all (isB L hb)
    | none => false)
  | none => false)
theorem powB_iff {L : List Tm} {hb : List Bool} {ks : List Tm} {n : Nat} : powB L hb ks n = true ↔ ∃ m d ks' rest, SB hb n ∧ L[n]? = some (Tm.mk 7 m d ks') ∧ withoutF ks ks' = some rest ∧ ∀ k ∈ rest, isH L (SB hb) k := by
  unfold powB
  rw [Bool.and_eq_true]
  cases h : L[n]? with
  | none => exact ⟨(fun e => by cases e.2), (fun ⟨_, _, _, _, _, e, _⟩ => by cases e)⟩
  | some t =>
    obtain ⟨o, m, d, ks'⟩ := t
    show _ ∧ (decide (o = 7) && (match withoutF ks ks' with | some rest => rest.all (isB L hb) | none => false)) = true ↔ _
    rw [Bool.and_eq_true, decide_eq_true_iff]
    cases hw : withoutF ks ks' with
    | none =>
      exact ⟨(fun e => by cases e.2.2), (fun ⟨_, _, _, _, _, e, e2, _⟩ => by cases e; rw [hw] at e2; cases e2)⟩
    | some rest =>
      show _ ∧ _ ∧ rest.all (isB L hb) = true ↔ _
      rw [List.all_eq_true]
      constructor
      · rintro ⟨h1, rfl, h2⟩
        exact ⟨m, d, ks', rest, h1, rfl, hw, fun k hk => isB_iff.1 (h2 k hk)⟩
      · rintro ⟨m', d', ks2, rest', h1, e, e2, h2⟩
        cases e
        rw [hw] at e2
        cases e2
        exact ⟨h1, rfl, fun k hk => isB_iff.2 (h2 k hk)⟩
def expB (L : List Tm) (hb : List Bool) (ks : List Tm) : Bool := ks.all (isB L hb) || (List.range L.length).any (powB L hb ks)
theorem expB_iff {L : List Tm} {hb : List Bool} {ks : List Tm} : expB L hb ks = true ↔ expH L (SB hb) ks := by
  unfold expB expH
  rw [Bool.or_eq_true, List.all_eq_true, List.any_eq_true]
  constructor
  · rintro (h | ⟨n, hn, h⟩)
    · exact .inl fun k hk => isB_iff.1 (h k hk)
    · obtain ⟨m, d, ks', rest, h1⟩ := powB_iff.1 h
      exact .inr ⟨n, m, d, ks', rest, h1⟩
  · rintro (h | ⟨n, m, d, ks', rest, h1, h2, h3⟩)
    · exact .inl fun k hk => isB_iff.2 (h k hk)
    · exact .inr ⟨n, List.mem_range.2 (List.getElem?_eq_some_iff.1 h2).1, powB_iff.2 ⟨m, d, ks', rest, h1, h2, h3⟩⟩
def madeB (L : List Tm) (hb : List Bool) (n : Nat) : Bool := match L[n]? with
  | none => false
  | some (.mk o _ d ks) => if o = 2 ∨ o = 3 ∨ o = 4 ∨ o = 6 then (match ks with
      | k :: _ => isB L hb k
      | [] => false) && allB hb d n else if o = 5 then allB hb d n else if o = 7 then expB L hb ks else false
theorem madeB_iff {L : List Tm} {hb : List Bool} {n : Nat} : madeB L hb n = true ↔ madeH L (SB hb) n := by
  unfold madeB madeH
  cases h : L[n]? with
  | none => exact ⟨(fun e => by cases e), (fun ⟨_, _, _, _, e, _⟩ => by cases e)⟩
  | some t =>
    obtain ⟨o, m, d, ks⟩ := t
    show (if o = 2 ∨ o = 3 ∨ o = 4 ∨ o = 6 then _ else _) = true ↔ _
    by_cases h1 : o = 2 ∨ o = 3 ∨ o = 4 ∨ o = 6
    · rw [if_pos h1, Bool.and_eq_true, allB_iff]
      constructor
      · rintro ⟨h2, h3⟩
        refine ⟨o, m, d, ks, rfl, .inl ⟨h1, ?_, h3⟩⟩
        cases ks with
        | nil => cases h2
        | cons k r => exact ⟨k, r, rfl, isB_iff.1 h2⟩
      · rintro ⟨o', m', d', ks', e, h2⟩
        cases e
        rcases h2 with ⟨_, ⟨k, r, rfl, h3⟩, h4⟩ | ⟨h2, _⟩ | ⟨h2, _⟩
        · exact ⟨isB_iff.2 h3, h4⟩
        · omega
        · omega
    · rw [if_neg h1]
      by_cases h5 : o = 5
      · rw [if_pos h5, allB_iff]
        constructor
        · intro h2
          exact ⟨o, m, d, ks, rfl, .inr (.inl ⟨h5, h2⟩)⟩
        · rintro ⟨o', m', d', ks', e, h2⟩
          cases e
          rcases h2 with ⟨h2, _⟩ | ⟨_, h2⟩ | ⟨h2, _⟩
          · exact absurd h2 h1
          · exact h2
          · omega
      · rw [if_neg h5]
        by_cases h7 : o = 7
        · rw [if_pos h7, expB_iff]
          constructor
          · intro h2
            exact ⟨o, m, d, ks, rfl, .inr (.inr ⟨h7, h2⟩)⟩
          · rintro ⟨o', m', d', ks', e, h2⟩
            cases e
            rcases h2 with ⟨h2, _⟩ | ⟨h2, _⟩ | ⟨_, h2⟩
            · exact absurd h2 h1
            · omega
            · exact h2
        · rw [if_neg h7]
          constructor
          · intro e
            cases e
          · rintro ⟨o', m', d', ks', e, h2⟩
            cases e
            rcases h2 with ⟨h2, _⟩ | ⟨h2, _⟩ | ⟨h2, _⟩
            · exact absurd h2 h1
            · exact absurd h2 h5
            · exact absurd h2 h7
/-- A row on its way to the closure. -/
structure Snd (L : List Tm) (K : Nat → Prop) (hb : List Bool) : Prop where
  len : hb.length = L.length
  sound : ∀ n, SB hb n → Cl L K n
theorem Snd.set {L : List Tm} {K : Nat → Prop} {hb : List Bool} (h : Snd L K hb) {n : Nat} (hn : Cl L K n) : Snd L K (hb.set n true) :=
  ⟨by rw [List.length_set]; exact h.len, fun m hm => by
    rcases (SB.set (by rw [h.len]; exact hn.1)).1 hm with rfl | hm
    · exact hn
    · exact h.sound m hm⟩
theorem Snd.known {L : List Tm} {K : Nat → Prop} {hb : List Bool} (h : Snd L K hb) {n : Nat} (hn : n < L.length) (hk : K n) : Snd L K (hb.set n true) := h.set (cl_closed.known n hn hk)
theorem Snd.made {L : List Tm} {K : Nat → Prop} {hb : List Bool} (h : Snd L K hb) {n : Nat} (hn : madeB L hb n = true) : Snd L K (hb.set n true) := h.set (cl_made h.sound (madeB_iff.1 hn))
theorem Snd.opened {L : List Tm} {K : Nat → Prop} {hb : List Bool} (h : Snd L K hb) {i : Nat} {m x : Int} {d : List Int} {k : Tm} {r : List Tm} (hi : SB hb i) (e : L[i]? = some (.mk 4 m d (k :: r))) (hk : isB L hb k = true) (hx : x ∈ mentionsF d (i : Int)) (h0 : 0 ≤ x) : Snd L K (hb.set x.toNat true) :=
  h.set (cl_opened h.sound ⟨i, m, d, k, r, hi, e, isB_iff.1 hk, by rw [show ((x.toNat : Nat) : Int) = x from by omega]; exact hx⟩)
theorem Snd.start (L : List Tm) (K : Nat → Prop) : Snd L K (List.replicate L.length false) := ⟨List.length_replicate, fun n h => by
  unfold SB at h
  rw [List.getD_eq_getElem?_getD, List.getElem?_replicate] at h
  split at h <;> cases h⟩
/-- A row to which nothing more comes is the closure. -/
theorem Snd.fin {L : List Tm} {K : Nat → Prop} {hb : List Bool} (h : Snd L K hb) (hk : ∀ n, n < L.length → K n → SB hb n) (hm : ∀ n, n < L.length → SB hb n ∨ madeB L hb n = false)
    (ho : ∀ (i : Nat) (m : Int) (d : List Int) (k : Tm) (r : List Tm), SB hb i → L[i]? = some (.mk 4 m d (k :: r)) → isB L hb k = true → ∀ x ∈ mentionsF d (i : Int), SB hb x.toNat) (n : Nat) : SB hb n ↔ Cl L K n := by
  refine cl_is ⟨hk, fun n hn => ?_, fun n hn => ?_⟩ h.sound n
  · rcases hm n (madeH_lt hn) with h1 | h1
    · exact h1
    · rw [madeB_iff.2 hn] at h1; cases h1
  · obtain ⟨i, m, d, k, r, h1, h2, h3, h4⟩ := hn
    exact ho i m d k r h1 h2 (isB_iff.2 h3) n h4
/-- The row, told as a list. -/
def toldB (hb : List Bool) : List Int := ((List.range hb.length).filter fun n => hb.getD n false).map Int.ofNat
theorem told_take (hb : List Bool) (i : Nat) (hi : i < hb.length) : ((List.range (i + 1)).filter fun n => hb.getD n false).map Int.ofNat = ((List.range i).filter fun n => hb.getD n false).map Int.ofNat ++ (if hb.getD i false = true then [(i : Int)] else []) := by
  rw [List.range_succ, List.filter_append, List.map_append]
  congr 1
  by_cases h : hb.getD i false = true
  · rw [if_pos h, show List.filter (fun n => hb.getD n false) [i] = [i] from List.filter_cons_of_pos (p := fun n => hb.getD n false) h]; rfl
  · rw [if_neg h, show List.filter (fun n => hb.getD n false) [i] = [] from List.filter_cons_of_neg (p := fun n => hb.getD n false) h]; rfl
theorem told_cl {L : List Tm} {known : List Int} {hb : List Bool} (hl : hb.length = L.length) (h : ∀ n, SB hb n ↔ Cl L (KofF known) n) : toldB hb = clF L known := by
  refine cl_list ?_ fun m => ?_
  · unfold toldB Rise
    rw [List.pairwise_map]
    refine List.Pairwise.imp (fun h => ?_) (List.Pairwise.sublist List.filter_sublist List.pairwise_lt_range)
    exact Int.ofNat_lt.2 h
  · unfold toldB
    rw [List.mem_map]
    constructor
    · rintro ⟨n, hn, rfl⟩
      exact ⟨n, rfl, (h n).1 (List.mem_filter.1 hn).2⟩
    · rintro ⟨n, rfl, hn⟩
      exact ⟨n, List.mem_filter.2 ⟨List.mem_range.2 (by rw [hl]; exact hn.1), (h n).2 hn⟩, rfl⟩
/-- How many are not had yet: fewer with each that is found. -/
def lackB (hb : List Bool) : Nat := hb.countP (fun b => !b)
theorem lack_set : ∀ (hb : List Bool) (n : Nat), n < hb.length → hb.getD n false = false → lackB (hb.set n true) + 1 = lackB hb
  | [], n, h, _ => by simp at h
  | b :: hb, 0, _, h => by
    have h : b = false := h
    subst h
    unfold lackB
    rw [List.set_cons_zero, List.countP_cons_of_neg (by simp), List.countP_cons_of_pos (by simp)]
  | b :: hb, n + 1, hn, h => by
    have ih := lack_set hb n (by simpa using hn) (by simpa using h)
    unfold lackB at ih ⊢
    rw [List.set_cons_succ, List.countP_cons, List.countP_cons]
    omega
theorem lack_le (hb : List Bool) : lackB hb ≤ hb.length := List.countP_le_length
end Go.Proofs.YtlhogjigdmpokaaGreatDoor.vtc
namespace Go.Proofs.YtlhogjigdmpokaaGreatDoor.vtc
open Go.RowKit Go.Proofs.YtlhogjigdmpokaaGreatDoor.tlvc Go.Proofs.YtlhogjigdmpokaaGreatDoor.tmc
set_option linter.unusedVariables false
/-- Block b is this row of truths. -/
def Tru (w : World) (b : Nat) (T : TypeId) (hb : List Bool) : Prop := w.rowIs b T hb.length (fun i => .bool (hb.getD i false))
section
variable {w w' : World} {b : Nat} {T : TypeId} {hb : List Bool}
theorem Tru.lt (h : Tru w b T hb) : b < w.heap.size := World.rowIs.lt h
theorem Tru.at (h : Tru w b T hb) {i : Nat} (hi : i < hb.length) : w.cell? ⟨b, i, none⟩ = some (.bool (hb.getD i false)) := World.rowIs.cell h hi
theorem Tru.warm (h : Tru w b T hb) (i : Nat) : w.frozen? ⟨b, i, none⟩ = false := World.rowIs.frozen h i
theorem Tru.block (h : Tru w b T hb) (e : w'.heap[b]? = w.heap[b]?) : Tru w' b T hb := World.rowIs.of_block h e
theorem Tru.below (h : Tru w b T hb) (k : Below w.heap.size w w') : Tru w' b T hb := h.block (k.block b h.lt)
theorem Tru.off {S : Nat → Prop} (h : Tru w b T hb) (k : Off S w w') (hS : ¬ S b) : Tru w' b T hb := h.block (k.block b h.lt hS)
theorem Tru.set (h : Tru w b T hb) {n : Nat} (hn : n < hb.length) : Tru (w.setCell ⟨b, n, none⟩ (.bool true)) b T (hb.set n true) := by
  unfold Tru
  rw [List.length_set]
  refine (World.rowIs.set h n (.bool true)).congr fun j hj => ?_
  by_cases e : j = n
  · subst e
    rw [if_pos rfl, List.getD_eq_getElem?_getD, List.getElem?_set_self hn]
    rfl
  · rw [if_neg e, List.getD_eq_getElem?_getD, List.getD_eq_getElem?_getD, List.getElem?_set_ne (fun h => e h.symm)]
theorem Tru.made (w : World) (T : TypeId) (n : Nat) : Tru (w.alloc (.cells (madeCells #[.bool false] n) T)) w.heap.size T (List.replicate n false) := by
  unfold Tru
  rw [List.length_replicate]
  refine (World.rowIs_made w (.bool false) n T).congr fun i hi => ?_
  rw [List.getD_eq_getElem?_getD, List.getElem?_replicate, if_pos hi]
  rfl
end
end Go.Proofs.YtlhogjigdmpokaaGreatDoor.vtc
namespace Go.Proofs.YtlhogjigdmpokaaGreatDoor.vtc
open Go.RowKit Go.Proofs.YtlhogjigdmpokaaGreatDoor.tlvc Go.Proofs.YtlhogjigdmpokaaGreatDoor.tmc
set_option linter.unusedVariables false
theorem erase_find {x : Tm} : ∀ {l : List Tm} {a : Nat}, findV x l = some a → l.eraseP (fun y => alikeB y x) = l.eraseIdx a
  | [], a, h => by cases h
  | y :: l, a, h => by
    unfold findV at h
    by_cases e : y = x
    · subst e
      rw [if_pos (alike_iff.2 rfl)] at h
      cases h
      rw [List.eraseP_cons_of_pos (p := fun z => alikeB z y) (alike_iff.2 rfl)]
      rfl
    · rw [if_neg fun k => e (alike_iff.1 k)] at h
      cases hf : findV x l with
      | none => rw [hf] at h; cases h
      | some b =>
        rw [hf] at h
        cases h
        rw [List.eraseP_cons_of_neg (p := fun z => alikeB z x) (fun k => e (alike_iff.1 k)), erase_find hf]
        rfl
theorem without_nil (l : List Tm) : withoutF l [] = some l := by unfold withoutF; rfl
/-- One more is left out, where it stands first; or it isn't there. -/
theorem without_cons (l less : List Tm) (x : Tm) : withoutF l (x :: less) = (match findV x l with | some a => withoutF (l.eraseIdx a) less | none => none) := by
  conv => lhs; unfold withoutF
  cases h : findV x l with
  | none =>
    rw [if_neg]
    intro e
    obtain ⟨y, hy, hyx⟩ := List.any_eq_true.1 e
    exact findV_none.1 h (alike_iff.1 hyx ▸ hy)
  | some a =>
    rw [if_pos (show l.any (fun y => alikeB y x) = true from List.any_eq_true.2 ⟨x, List.mem_of_getElem? (findV_some h).1, alike_iff.2 rfl⟩), erase_find h]
theorem without_snoc {l : List Tm} {x : Tm} : ∀ {less : List Tm} {l' : List Tm}, withoutF l less = some l' → withoutF l (less ++ [x]) = withoutF l' [x] := by
  intro less
  induction less generalizing l with
  | nil => intro l' h; rw [without_nil] at h; cases h; rfl
  | cons y less ih =>
    intro l' h
    rw [List.cons_append, without_cons]
    rw [without_cons] at h
    cases hf : findV y l with
    | none => rw [hf] at h; cases h
    | some a => rw [hf] at h; exact ih h
theorem without_stop {l : List Tm} {x : Tm} {more : List Tm} : ∀ {less : List Tm}, withoutF l less = none → withoutF l (less ++ more) = none := by
  intro less
  induction less generalizing l with
  | nil => intro h; rw [without_nil] at h; cases h
  | cons y less ih =>
    intro h
    rw [List.cons_append, without_cons]
    rw [without_cons] at h
    cases hf : findV y l with
    | none => rfl
    | some a => rw [hf] at h; exact ih h
theorem without_one {l : List Tm} {x : Tm} {a : Nat} (h : findV x l = some a) : withoutF l [x] = some (l.eraseIdx a) := by rw [without_cons, h]; exact without_nil _
theorem without_gone {l : List Tm} {x : Tm} (h : findV x l = none) : withoutF l [x] = none := by rw [without_cons, h]
/-- What the loop copies. -/
theorem erase_parts {l : List Tm} {a : Nat} (h : a < l.length) : l.take a ++ l.drop (a + 1) = l.eraseIdx a := (List.eraseIdx_eq_take_drop_succ l a).symm
theorem without_len {l : List Tm} : ∀ {less l' : List Tm}, withoutF l less = some l' → l'.length + less.length = l.length := by
  intro less
  induction less generalizing l with
  | nil => intro l' h; rw [without_nil] at h; cases h; rfl
  | cons y less ih =>
    intro l' h
    rw [without_cons] at h
    cases hf : findV y l with
    | none => rw [hf] at h; cases h
    | some a =>
      rw [hf] at h
      have h1 := ih h
      have h2 := findV_lt hf
      rw [List.length_eraseIdx_of_lt h2] at h1
      simp only [List.length_cons]
      omega
end Go.Proofs.YtlhogjigdmpokaaGreatDoor.vtc
