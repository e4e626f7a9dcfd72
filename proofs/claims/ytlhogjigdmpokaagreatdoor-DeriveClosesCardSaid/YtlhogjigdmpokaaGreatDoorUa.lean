/- A table of terms: plain. Nothing here names the program. A term's key: what it is written as; a map that has just the keys of a table. Nothing here names the program. -/
import Derived.Test.YtlhogjigdmpokaaGreatDoorTc
import Derived.Lib.ItoaLen
import Derived.Lib.BytesEntry
import Derived.Lib.UnsafeStr
import Derived.Maps.OwnSet
namespace Go.Proofs.YtlhogjigdmpokaaGreatDoor.vtc
open Go.RowKit Go.Proofs.YtlhogjigdmpokaaGreatDoor.tlvc Go.Proofs.YtlhogjigdmpokaaGreatDoor.tmc
set_option linter.unusedVariables false
/-- Are two terms alike? -/
def alikeB (x t : Tm) : Bool := decide (ordT x t = 0)
theorem alike_iff {x t : Tm} : alikeB x t = true ↔ x = t := by
  unfold alikeB
  rw [decide_eq_true_iff]
  exact ⟨ordT_zero, fun h => by rw [h]; exact ordT_refl _⟩
/-- The first place of a term. -/
def findV (t : Tm) : List Tm → Option Nat
  | [] => none
  | x :: L => if alikeB x t = true then some 0 else (findV t L).map (· + 1)
theorem findV_some : ∀ {L : List Tm} {t : Tm} {i : Nat}, findV t L = some i → L[i]? = some t ∧ ∀ j, j < i → L[j]? ≠ some t
  | [], _, _, h => by cases h
  | x :: L, t, i, h => by
    unfold findV at h
    split at h
    · rename_i hx
      cases h
      exact ⟨by rw [alike_iff.1 hx]; rfl, fun j hj => by omega⟩
    · rename_i hx
      obtain ⟨k, hk, rfl⟩ := Option.map_eq_some_iff.1 h
      obtain ⟨h1, h2⟩ := findV_some hk
      refine ⟨by rw [List.getElem?_cons_succ]; exact h1, fun j hj => ?_⟩
      cases j with
      | zero => intro e; exact hx (alike_iff.2 (Option.some.inj e))
      | succ j => rw [List.getElem?_cons_succ]; exact h2 j (by omega)
theorem findV_none : ∀ {L : List Tm} {t : Tm}, findV t L = none ↔ t ∉ L
  | [], t => by simp [findV]
  | x :: L, t => by
    unfold findV
    split
    · rename_i hx
      rw [alike_iff.1 hx]; simp
    · rename_i hx
      rw [Option.map_eq_none_iff, findV_none, List.mem_cons, not_or]
      exact ⟨fun h => ⟨fun e => hx (alike_iff.2 e.symm), h⟩, fun h => h.2⟩
theorem findV_mem {L : List Tm} {t : Tm} (h : t ∈ L) : ∃ i, findV t L = some i := by
  cases e : findV t L with
  | none => exact absurd h (findV_none.1 e)
  | some i => exact ⟨i, rfl⟩
/-- Each term once. -/
def Once (L : List Tm) : Prop := ∀ (i j : Nat) (t : Tm), L[i]? = some t → L[j]? = some t → i = j
theorem findV_once {L : List Tm} (h : Once L) {t : Tm} {i : Nat} : findV t L = some i ↔ L[i]? = some t := by
  constructor
  · exact fun e => (findV_some e).1
  · intro e
    obtain ⟨j, hj⟩ := findV_mem (List.mem_of_getElem? e)
    rw [hj, h j i t (findV_some hj).1 e]
mutual
/-- A term put in, its kids ahead of it. -/
def putV : Tm → List Tm → List Tm
  | .mk o m d ks, L => if (findV (.mk o m d ks) L).isSome = true then L else putsV ks L ++ [.mk o m d ks]
def putsV : List Tm → List Tm → List Tm
  | [], L => L
  | k :: ks, L => putsV ks (putV k L)
end
theorem putsV_nil (L : List Tm) : putsV [] L = L := by unfold putsV; rfl
theorem putsV_cons (k : Tm) (ks L : List Tm) : putsV (k :: ks) L = putsV ks (putV k L) := by conv => lhs; unfold putsV
theorem putV_had {t : Tm} {L : List Tm} (h : t ∈ L) : putV t L = L := by
  obtain ⟨o, m, d, ks⟩ := t
  obtain ⟨i, hi⟩ := findV_mem h
  unfold putV
  rw [hi]
  rfl
theorem putV_new {o m : Int} {d : List Int} {ks L : List Tm} (h : Tm.mk o m d ks ∉ L) : putV (.mk o m d ks) L = putsV ks L ++ [.mk o m d ks] := by
  unfold putV
  rw [findV_none.2 h]
  rfl
theorem szT_pos (t : Tm) : 1 ≤ szT t := by obtain ⟨o, m, d, ks⟩ := t; unfold szT; omega
theorem szT_kids (o m : Int) (d : List Int) (ks : List Tm) : szT (.mk o m d ks) = szTs ks + 1 := by conv => lhs; unfold szT
theorem szTs_two (k : Tm) (ks : List Tm) : szTs (k :: ks) = szT k + szTs ks := by conv => lhs; unfold szTs
/-- What a put does. -/
structure Put1 (L L' : List Tm) (n : Nat) : Prop where
  pre : L <+: L'
  len : L'.length ≤ L.length + n
  size : ∀ x ∈ L', x ∈ L ∨ szT x ≤ n
theorem Put1.refl (L : List Tm) (n : Nat) : Put1 L L n := ⟨List.prefix_refl _, by omega, fun x h => .inl h⟩
theorem Put1.then_ {L L' L'' : List Tm} {n m : Nat} (h : Put1 L L' n) (k : Put1 L' L'' m) : Put1 L L'' (n + m) :=
  ⟨h.pre.trans k.pre, by have := h.len; have := k.len; omega, fun x hx => by
    rcases k.size x hx with h1 | h1
    · rcases h.size x h1 with h2 | h2
      · exact .inl h2
      · exact .inr (by omega)
    · exact .inr (by omega)⟩
theorem puts_one : ∀ (N : Nat), (∀ t L, szT t ≤ N → Put1 L (putV t L) (szT t)) ∧ (∀ ks L, szTs ks ≤ N → Put1 L (putsV ks L) (szTs ks)) := by
  intro N
  induction N with
  | zero =>
    refine ⟨fun t L h => by have := szT_pos t; omega, fun ks L h => ?_⟩
    cases ks with
    | nil => rw [putsV_nil]; exact Put1.refl _ _
    | cons k ks => rw [szTs_two] at h; have := szT_pos k; omega
  | succ N ih =>
    have h1 : ∀ t L, szT t ≤ N + 1 → Put1 L (putV t L) (szT t) := fun t L h => by
      obtain ⟨o, m, d, ks⟩ := t
      rw [szT_kids] at h ⊢
      by_cases hm : Tm.mk o m d ks ∈ L
      · rw [putV_had hm]; exact Put1.refl _ _
      · rw [putV_new hm]
        have hk := ih.2 ks L (by omega)
        refine ⟨hk.pre.trans (List.prefix_append _ _), by rw [List.length_append]; have := hk.len; simp; omega, fun x hx => ?_⟩
        rcases List.mem_append.1 hx with hx | hx
        · rcases hk.size x hx with h2 | h2
          · exact .inl h2
          · exact .inr (by omega)
        · rw [List.mem_singleton] at hx
          subst hx
          exact .inr (by rw [szT_kids]; omega)
    refine ⟨h1, fun ks => ?_⟩
    induction ks with
    | nil => intro L _; rw [putsV_nil]; exact Put1.refl _ _
    | cons k ks ihk =>
      intro L h
      rw [szTs_two] at h ⊢
      rw [putsV_cons]
      exact (h1 k L (by omega)).then_ (ihk _ (by omega))
theorem put_one (t : Tm) (L : List Tm) : Put1 L (putV t L) (szT t) := (puts_one _).1 t L (Nat.le_refl _)
theorem puts_ones (ks L : List Tm) : Put1 L (putsV ks L) (szTs ks) := (puts_one _).2 ks L (Nat.le_refl _)
theorem prefix_get {L L' : List Tm} (h : L <+: L') {i : Nat} {t : Tm} (e : L[i]? = some t) : L'[i]? = some t := by
  obtain ⟨r, rfl⟩ := h
  rw [List.getElem?_append_left (List.getElem?_eq_some_iff.1 e).1]; exact e
theorem prefix_mem {L L' : List Tm} (h : L <+: L') {t : Tm} (e : t ∈ L) : t ∈ L' := by
  obtain ⟨r, rfl⟩ := h
  exact List.mem_append_left _ e
theorem put_has (t : Tm) (L : List Tm) : t ∈ putV t L := by
  by_cases h : t ∈ L
  · rw [putV_had h]; exact h
  · obtain ⟨o, m, d, ks⟩ := t
    rw [putV_new h]; simp
theorem puts_has : ∀ (ks L : List Tm), ∀ k ∈ ks, k ∈ putsV ks L
  | [], _, k, h => by simp at h
  | x :: ks, L, k, h => by
    rw [putsV_cons]
    rcases List.mem_cons.1 h with rfl | h
    · exact prefix_mem (puts_ones ks _).pre (put_has _ L)
    · exact puts_has ks _ k h
/-- A term that is new is its own list's last. -/
theorem put_last {t : Tm} {L : List Tm} (h : t ∉ L) : (putV t L)[(putV t L).length - 1]? = some t ∧ L.length < (putV t L).length := by
  obtain ⟨o, m, d, ks⟩ := t
  rw [putV_new h]
  have := (puts_ones ks L).pre.length_le
  constructor
  · rw [List.length_append, List.getElem?_append_right (by simp)]; simp
  · rw [List.length_append]; simp; omega
theorem once_snoc {L : List Tm} (h : Once L) {t : Tm} (ht : t ∉ L) : Once (L ++ [t]) := by
  have key : ∀ i x, (L ++ [t])[i]? = some x → (i < L.length ∧ L[i]? = some x) ∨ (i = L.length ∧ x = t) := fun i x e => by
    rcases Nat.lt_or_ge i L.length with hl | hl
    · rw [List.getElem?_append_left hl] at e; exact .inl ⟨hl, e⟩
    · rw [List.getElem?_append_right hl] at e
      have h0 : i - L.length = 0 := by
        rcases Nat.eq_zero_or_pos (i - L.length) with h | h
        · exact h
        · rw [List.getElem?_eq_none (by simp; omega)] at e; cases e
      rw [h0] at e
      exact .inr ⟨by omega, (Option.some.inj e).symm⟩
  intro i j x h1 h2
  rcases key i x h1 with ⟨_, a⟩ | ⟨a, rfl⟩
  · rcases key j x h2 with ⟨_, b⟩ | ⟨b, rfl⟩
    · exact h i j x a b
    · exact absurd (List.mem_of_getElem? a) ht
  · rcases key j x h2 with ⟨_, b⟩ | ⟨b, _⟩
    · exact absurd (List.mem_of_getElem? b) ht
    · omega
/-- Whose kids all stand ahead of it. -/
def Closed (L : List Tm) : Prop := ∀ (i : Nat) (o m : Int) (d : List Int) (ks : List Tm), L[i]? = some (Tm.mk o m d ks) → ∀ k ∈ ks, ∃ j, j < i ∧ L[j]? = some k
theorem put_keeps : ∀ (N : Nat), (∀ t L, szT t ≤ N → Once L → Closed L → Once (putV t L) ∧ Closed (putV t L)) ∧ (∀ ks L, szTs ks ≤ N → Once L → Closed L → Once (putsV ks L) ∧ Closed (putsV ks L)) := by
  intro N
  induction N with
  | zero =>
    refine ⟨fun t L h => by have := szT_pos t; omega, fun ks L h h1 h2 => ?_⟩
    cases ks with
    | nil => rw [putsV_nil]; exact ⟨h1, h2⟩
    | cons k ks => rw [szTs_two] at h; have := szT_pos k; omega
  | succ N ih =>
    have h1 : ∀ t L, szT t ≤ N + 1 → Once L → Closed L → Once (putV t L) ∧ Closed (putV t L) := fun t L h ho hc => by
      obtain ⟨o, m, d, ks⟩ := t
      rw [szT_kids] at h
      by_cases hm : Tm.mk o m d ks ∈ L
      · rw [putV_had hm]; exact ⟨ho, hc⟩
      · rw [putV_new hm]
        obtain ⟨a, b⟩ := ih.2 ks L (by omega) ho hc
        have hn : Tm.mk o m d ks ∉ putsV ks L := fun e => by
          rcases (puts_ones ks L).size _ e with h2 | h2
          · exact hm h2
          · rw [szT_kids] at h2; omega
        refine ⟨once_snoc a hn, fun i o' m' d' ks' e k hk => ?_⟩
        rcases Nat.lt_or_ge i (putsV ks L).length with hl | hl
        · rw [List.getElem?_append_left hl] at e
          obtain ⟨j, hj, ej⟩ := b i o' m' d' ks' e k hk
          exact ⟨j, hj, by rw [List.getElem?_append_left (by omega)]; exact ej⟩
        · have hi : i = (putsV ks L).length := by
            have := (List.getElem?_eq_some_iff.1 e).1
            rw [List.length_append] at this
            simp at this
            omega
          subst hi
          rw [List.getElem?_append_right (Nat.le_refl _), Nat.sub_self] at e
          cases e
          obtain ⟨j, hj⟩ := List.getElem?_of_mem (puts_has ks L k hk)
          have hjl := (List.getElem?_eq_some_iff.1 hj).1
          exact ⟨j, hjl, by rw [List.getElem?_append_left hjl]; exact hj⟩
    refine ⟨h1, fun ks => ?_⟩
    induction ks with
    | nil => intro L _ ho hc; rw [putsV_nil]; exact ⟨ho, hc⟩
    | cons k ks ihk =>
      intro L h ho hc
      rw [szTs_two] at h
      rw [putsV_cons]
      obtain ⟨a, b⟩ := h1 k L (by omega) ho hc
      exact ihk _ (by omega) a b
theorem put_once {t : Tm} {L : List Tm} (h : Once L) (hc : Closed L) : Once (putV t L) ∧ Closed (putV t L) := (put_keeps _).1 t L (Nat.le_refl _) h hc
/-- What Intern answers, and the table behind it. -/
def internV (t : Tm) (L : List Tm) : Int × Int × List Tm :=
  if rightF t 0 = true then
    match findV t L with
    | some i => ((i : Int), 0, L)
    | none => if L.length + szT t ≤ 4096 then (((putV t L).length : Int) - 1, 0, putV t L) else (-1, 2, L)
  else (-1, 51, L)
end Go.Proofs.YtlhogjigdmpokaaGreatDoor.vtc
namespace Go.Proofs.YtlhogjigdmpokaaGreatDoor.vtc
open Go.RowKit Go.Proofs.YtlhogjigdmpokaaGreatDoor.tlvc Go.Proofs.YtlhogjigdmpokaaGreatDoor.tmc
set_option linter.unusedVariables false
/-- A number's digits, as bytes. -/
def numL (n : Int) : List Int := (Lib.itoa n).map fun b => (b.toNat : Int)
def dec8 (l : List UInt8) : Nat := l.foldl (fun a b => a * 10 + (b.toNat - 48)) 0
theorem dig_nat {k : Nat} (h : k < 10) : (UInt8.ofNat (48 + k)).toNat = 48 + k := by
  rw [UInt8.toNat_ofNat']
  omega
theorem dec_digits : ∀ (N u : Nat), u ≤ N → dec8 (Lib.decDigits u) = u
  | 0, u, h => by
    obtain rfl : u = 0 := by omega
    rw [Lib.decDigits_one (by omega)]
    rfl
  | N + 1, u, h => by
    by_cases h10 : u < 10
    · rw [Lib.decDigits_one h10]
      show 0 * 10 + ((UInt8.ofNat (48 + u)).toNat - 48) = u
      rw [dig_nat h10]
      omega
    · have ih := dec_digits N (u / 10) (by omega)
      rw [Lib.decDigits, dif_neg h10]
      unfold dec8 at ih ⊢
      rw [List.foldl_append, ih]
      show u / 10 * 10 + ((UInt8.ofNat (48 + u % 10)).toNat - 48) = u
      rw [dig_nat (by omega)]
      omega
theorem digits_in : ∀ (N u : Nat), u ≤ N → ∀ b ∈ Lib.decDigits u, 48 ≤ b.toNat ∧ b.toNat ≤ 57
  | 0, u, h => by
    obtain rfl : u = 0 := by omega
    rw [Lib.decDigits_one (by omega)]
    intro b hb
    rw [List.mem_singleton.1 hb, dig_nat (by omega)]
    omega
  | N + 1, u, h => by
    by_cases h10 : u < 10
    · rw [Lib.decDigits_one h10]
      intro b hb
      rw [List.mem_singleton.1 hb, dig_nat h10]
      omega
    · rw [Lib.decDigits, dif_neg h10]
      intro b hb
      rcases List.mem_append.1 hb with hb | hb
      · exact digits_in N (u / 10) (by omega) b hb
      · rw [List.mem_singleton.1 hb, dig_nat (by omega)]
        omega
theorem itoa_inj {n k : Int} (h : Lib.itoa n = Lib.itoa k) : n = k := by
  have e := fun u => dec_digits u u (Nat.le_refl _)
  have g := fun u => digits_in u u (Nat.le_refl _)
  have no : ∀ u r, Lib.decDigits u ≠ 45 :: r := fun u r hh => by
    have := g u 45 (by rw [hh]; simp)
    have h45 : (45 : UInt8).toNat = 45 := rfl
    omega
  unfold Lib.itoa at h
  split at h
  · split at h
    · have h2 := e n.natAbs
      rw [List.cons.inj h |>.2, e] at h2
      omega
    · exact absurd h.symm (no _ _)
  · split at h
    · exact absurd h (no _ _)
    · have h2 := e n.toNat
      rw [h, e] at h2
      omega
theorem u8_inj : ∀ {a b : List UInt8}, (a.map fun x => (x.toNat : Int)) = (b.map fun x => (x.toNat : Int)) → a = b
  | [], [], _ => rfl
  | [], y :: b, h => by cases h
  | x :: a, [], h => by cases h
  | x :: a, y :: b, h => by
    rw [List.map_cons, List.map_cons] at h
    obtain ⟨h1, h2⟩ := List.cons.inj h
    rw [u8_inj h2, UInt8.toNat_inj.1 (show x.toNat = y.toNat by omega)]
theorem numL_inj {n k : Int} (h : numL n = numL k) : n = k := itoa_inj (u8_inj h)
/-- No blank and no colon. -/
def Pure (l : List Int) : Prop := ∀ x ∈ l, x ≠ 32 ∧ x ≠ 58
theorem numL_in (n : Int) : ∀ x ∈ numL n, 45 ≤ x ∧ x ≤ 57 := by
  intro x hx
  obtain ⟨b, hb, rfl⟩ := List.mem_map.1 hx
  unfold Lib.itoa at hb
  split at hb
  · rcases List.mem_cons.1 hb with rfl | hb
    · exact ⟨by decide, by decide⟩
    · have := digits_in _ _ (Nat.le_refl _) b hb
      omega
  · have := digits_in _ _ (Nat.le_refl _) b hb
    omega
theorem numL_pure (n : Int) : Pure (numL n) := fun x hx => by have := numL_in n x hx; omega
theorem numL_fit (n : Int) : Fit (numL n) := fun x hx => by have := numL_in n x hx; omega
theorem numL_len {n : Int} (h : I64 n) : (numL n).length ≤ 21 := by
  unfold numL
  rw [List.length_map]
  exact Lib.itoa_length_le n h.1 h.2
theorem cells_numL (n : Int) : Lib.byteCells (Lib.itoa n) = vals (numL n) := by
  unfold Lib.byteCells vals numL
  rw [List.map_map]
  rfl
theorem part {a a' : List Int} {x x' : Int} {r r' : List Int} (ha : Pure a) (ha' : Pure a') (hx : x = 32 ∨ x = 58) (hx' : x' = 32 ∨ x' = 58) (h : a ++ x :: r = a' ++ x' :: r') : a = a' ∧ x = x' ∧ r = r' := by
  induction a generalizing a' with
  | nil =>
    cases a' with
    | nil => obtain ⟨h1, h2⟩ := List.cons.inj h; exact ⟨rfl, h1, h2⟩
    | cons y a' =>
      obtain ⟨h1, _⟩ := List.cons.inj h
      have := ha' y (by simp)
      omega
  | cons y a ih =>
    cases a' with
    | nil =>
      obtain ⟨h1, _⟩ := List.cons.inj h
      have := ha y (by simp)
      omega
    | cons y' a' =>
      obtain ⟨h1, h2⟩ := List.cons.inj h
      obtain ⟨g1, g2, g3⟩ := ih (fun z hz => ha z (List.mem_cons_of_mem _ hz)) (fun z hz => ha' z (List.mem_cons_of_mem _ hz)) h2
      exact ⟨by rw [h1, g1], g2, g3⟩
/-- The kids' numbers and the data. -/
def restK : List Int → List Int → List Int
  | [], d => 58 :: d
  | k :: ks, d => 32 :: (numL k ++ restK ks d)
def keyF (o m : Int) (ks d : List Int) : List Int := numL o ++ 32 :: (numL m ++ restK ks d)
theorem restK_head (ks d : List Int) : ∃ x r, restK ks d = x :: r ∧ (x = 32 ∨ x = 58) := by
  cases ks with
  | nil => exact ⟨_, _, rfl, .inr rfl⟩
  | cons k ks => exact ⟨_, _, rfl, .inl rfl⟩
theorem restK_inj : ∀ {ks ks' d d' : List Int}, restK ks d = restK ks' d' → ks = ks' ∧ d = d'
  | [], [], d, d', h => ⟨rfl, (List.cons.inj h).2⟩
  | [], k :: ks, d, d', h => by have := (List.cons.inj h).1; omega
  | k :: ks, [], d, d', h => by have := (List.cons.inj h).1; omega
  | k :: ks, k' :: ks', d, d', h => by
    have h2 := (List.cons.inj h).2
    obtain ⟨x, r, e, hx⟩ := restK_head ks d
    obtain ⟨x', r', e', hx'⟩ := restK_head ks' d'
    rw [e, e'] at h2
    obtain ⟨g1, g2, g3⟩ := part (numL_pure k) (numL_pure k') hx hx' h2
    subst g2 g3
    obtain ⟨i1, i2⟩ := restK_inj (e.trans e'.symm)
    exact ⟨by rw [numL_inj g1, i1], i2⟩
theorem keyF_inj {o m o' m' : Int} {ks d ks' d' : List Int} (h : keyF o m ks d = keyF o' m' ks' d') : o = o' ∧ m = m' ∧ ks = ks' ∧ d = d' := by
  unfold keyF at h
  obtain ⟨g1, _, g2⟩ := part (numL_pure o) (numL_pure o') (.inl rfl) (.inl rfl) h
  obtain ⟨x, r, e, hx⟩ := restK_head ks d
  obtain ⟨x', r', e', hx'⟩ := restK_head ks' d'
  rw [e, e'] at g2
  obtain ⟨f1, f2, f3⟩ := part (numL_pure m) (numL_pure m') hx hx' g2
  subst f2 f3
  obtain ⟨i1, i2⟩ := restK_inj (e.trans e'.symm)
  exact ⟨numL_inj g1, numL_inj f1, i1, i2⟩
theorem restK_fit : ∀ {ks d : List Int}, Fit d → Fit (restK ks d)
  | [], d, h => fun x hx => by
    rcases List.mem_cons.1 hx with rfl | hx
    · omega
    · exact h x hx
  | k :: ks, d, h => fun x hx => by
    rcases List.mem_cons.1 hx with rfl | hx
    · omega
    · rcases List.mem_append.1 hx with hx | hx
      · exact numL_fit k x hx
      · exact restK_fit h x hx
theorem keyF_fit {o m : Int} {ks d : List Int} (h : Fit d) : Fit (keyF o m ks d) := fun x hx => by
  rcases List.mem_append.1 hx with hx | hx
  · exact numL_fit o x hx
  · rcases List.mem_cons.1 hx with rfl | hx
    · omega
    · rcases List.mem_append.1 hx with hx | hx
      · exact numL_fit m x hx
      · exact restK_fit h x hx
/-- All ahead of the colon, up to the first i kids. -/
def preK (o m : Int) (ks : List Int) : List Int := numL o ++ 32 :: (numL m ++ ks.flatMap fun k => 32 :: numL k)
theorem restK_flat : ∀ (ks d : List Int), restK ks d = (ks.flatMap fun k => 32 :: numL k) ++ 58 :: d
  | [], d => rfl
  | k :: ks, d => by
    rw [List.flatMap_cons]
    unfold restK
    rw [restK_flat ks d]
    simp
theorem preK_key (o m : Int) (ks d : List Int) : preK o m ks ++ 58 :: d = keyF o m ks d := by
  unfold preK keyF
  rw [restK_flat]
  simp
theorem preK_snoc (o m : Int) (ks : List Int) (k : Int) : preK o m ks ++ 32 :: numL k = preK o m (ks ++ [k]) := by
  unfold preK
  rw [List.flatMap_append]
  simp
theorem preK_nil (o m : Int) : preK o m [] = numL o ++ 32 :: numL m := by unfold preK; simp
theorem preK_len {o m : Int} {ks : List Int} (ho : I64 o) (hm : I64 m) (hk : Fit8 ks) : (preK o m ks).length ≤ 43 + 22 * ks.length := by
  have h1 := numL_len ho
  have h2 := numL_len hm
  have h3 : (ks.flatMap fun k => 32 :: numL k).length ≤ 22 * ks.length := by
    induction ks with
    | nil => simp
    | cons k ks ih =>
      rw [List.flatMap_cons, List.length_append, List.length_cons, List.length_cons]
      have := ih fun x hx => hk x (List.mem_cons_of_mem _ hx)
      have := numL_len (show I64 k from hk k (by simp))
      omega
  unfold preK
  rw [List.length_append, List.length_cons, List.length_append]
  omega
theorem keyF_len {o m : Int} {ks d : List Int} (ho : I64 o) (hm : I64 m) (hk : Fit8 ks) : (keyF o m ks d).length ≤ 44 + 22 * ks.length + d.length := by
  rw [← preK_key, List.length_append, List.length_cons]
  have := preK_len ho hm hk
  omega
theorem strNums_inj {a b : List Int} (ha : Fit a) (hb : Fit b) (h : strOfNums a = strOfNums b) : a = b := by
  have h2 : (strOfNums a).data.toList = (strOfNums b).data.toList := by rw [h]
  rw [strOfNums_data, strOfNums_data] at h2
  clear h
  induction a generalizing b with
  | nil =>
    cases b with
    | nil => rfl
    | cons y b => cases h2
  | cons x a ih =>
    cases b with
    | nil => cases h2
    | cons y b =>
      rw [List.map_cons, List.map_cons] at h2
      obtain ⟨g1, g2⟩ := List.cons.inj h2
      have hx := ha x (by simp)
      have hy := hb y (by simp)
      have e : x = y := by
        have := congrArg UInt8.toNat g1
        rw [UInt8.toNat_ofNat', UInt8.toNat_ofNat'] at this
        omega
      rw [e, ih (fun z hz => ha z (List.mem_cons_of_mem _ hz)) (fun z hz => hb z (List.mem_cons_of_mem _ hz)) g2]
/-- The numbers of a term's kids. -/
def kidsN (L ks : List Tm) : List Int := ks.map fun k => (((findV k L).getD 0 : Nat) : Int)
theorem kidsN_len (L ks : List Tm) : (kidsN L ks).length = ks.length := List.length_map ..
theorem kidsN_nil (L : List Tm) : kidsN L [] = [] := rfl
theorem kidsN_at (L ks : List Tm) {i : Nat} {k : Tm} (h : ks[i]? = some k) : kidsN L (ks.take (i + 1)) = kidsN L (ks.take i) ++ [(((findV k L).getD 0 : Nat) : Int)] := by
  obtain ⟨hi, rfl⟩ := List.getElem?_eq_some_iff.1 h
  unfold kidsN
  rw [List.take_succ_eq_append_getElem hi, List.map_append]
  rfl
/-- A term's key. -/
def keyT (L : List Tm) : Tm → List Int
  | .mk o m d ks => keyF o m (kidsN L ks) d
theorem findV_lt {L : List Tm} {t : Tm} {i : Nat} (h : findV t L = some i) : i < L.length := (List.getElem?_eq_some_iff.1 (findV_some h).1).1
theorem kidsN_fit {L ks : List Tm} (hL : L.length ≤ 100000) : Fit8 (kidsN L ks) := fun x hx => by
  obtain ⟨k, _, rfl⟩ := List.mem_map.1 hx
  cases e : findV k L with
  | none => simp
  | some i => have := findV_lt e; simp; omega
theorem kidsN_inj {L : List Tm} : ∀ {ks ks' : List Tm}, (∀ k ∈ ks, k ∈ L) → (∀ k ∈ ks', k ∈ L) → kidsN L ks = kidsN L ks' → ks = ks'
  | [], [], _, _, _ => rfl
  | [], k :: ks, _, _, h => by cases h
  | k :: ks, [], _, _, h => by cases h
  | k :: ks, k' :: ks', h1, h2, h => by
    obtain ⟨e1, e2⟩ := List.cons.inj (show (((findV k L).getD 0 : Nat) : Int) :: kidsN L ks = (((findV k' L).getD 0 : Nat) : Int) :: kidsN L ks' from h)
    obtain ⟨i, hi⟩ := findV_mem (h1 k (by simp))
    obtain ⟨j, hj⟩ := findV_mem (h2 k' (by simp))
    rw [hi, hj] at e1
    simp only [Option.getD_some] at e1
    have hij : i = j := by omega
    subst hij
    have := (findV_some hi).1.symm.trans (findV_some hj).1
    rw [Option.some.inj this, kidsN_inj (fun x hx => h1 x (List.mem_cons_of_mem _ hx)) (fun x hx => h2 x (List.mem_cons_of_mem _ hx)) e2]
/-- All its kids are there. -/
def KidsIn (L : List Tm) : Tm → Prop
  | .mk _ _ _ ks => ∀ k ∈ ks, k ∈ L
theorem keyT_inj {L : List Tm} {s t : Tm} (hs : KidsIn L s) (ht : KidsIn L t) (h : keyT L s = keyT L t) : s = t := by
  obtain ⟨o, m, d, ks⟩ := s
  obtain ⟨o', m', d', ks'⟩ := t
  obtain ⟨e1, e2, e3, e4⟩ := keyF_inj h
  rw [e1, e2, e4, kidsN_inj hs ht e3]
theorem findV_pre {L r : List Tm} {t : Tm} {i : Nat} (h : findV t L = some i) : findV t (L ++ r) = some i := by
  induction L generalizing i with
  | nil => cases h
  | cons x L ih =>
    rw [List.cons_append]
    unfold findV at h ⊢
    split
    · rename_i hx; rw [if_pos hx] at h; exact h
    · rename_i hx
      rw [if_neg hx] at h
      obtain ⟨k, hk, rfl⟩ := Option.map_eq_some_iff.1 h
      rw [ih hk]
      rfl
theorem kidsN_pre {L r : List Tm} : ∀ {ks : List Tm}, (∀ k ∈ ks, k ∈ L) → kidsN (L ++ r) ks = kidsN L ks
  | [], _ => rfl
  | k :: ks, h => by
    obtain ⟨i, hi⟩ := findV_mem (h k (by simp))
    show (((findV k (L ++ r)).getD 0 : Nat) : Int) :: kidsN (L ++ r) ks = (((findV k L).getD 0 : Nat) : Int) :: kidsN L ks
    rw [findV_pre hi, hi, kidsN_pre fun x hx => h x (List.mem_cons_of_mem _ hx)]
theorem keyT_pre {L r : List Tm} {t : Tm} (h : KidsIn L t) : keyT (L ++ r) t = keyT L t := by
  obtain ⟨o, m, d, ks⟩ := t
  show keyF o m (kidsN (L ++ r) ks) d = keyF o m (kidsN L ks) d
  rw [kidsN_pre h]
theorem closed_kids {L : List Tm} (h : Closed L) {t : Tm} (ht : t ∈ L) : KidsIn L t := by
  obtain ⟨o, m, d, ks⟩ := t
  obtain ⟨i, hi⟩ := List.getElem?_of_mem ht
  intro k hk
  obtain ⟨j, _, e⟩ := h i o m d ks hi k hk
  exact List.mem_of_getElem? e
/-- A key as the map takes it. -/
def kl (xs : List Int) : Lit := .string (strOfNums xs).data.toList
theorem kl_inj {a b : List Int} (ha : Fit a) (hb : Fit b) (h : kl a = kl b) : a = b := by
  refine strNums_inj ha hb ?_
  have h2 := Lit.string.inj h
  apply ByteArray.ext
  exact Array.toList_inj.1 h2
theorem kl_key (xs : List Int) : WideAt.IsKeyLit (kl xs) := by unfold kl; simp [WideAt.IsKeyLit]
/-- The data are bytes. -/
def FitT : Tm → Prop
  | .mk _ _ d _ => Fit d
theorem keyT_fit {L : List Tm} {t : Tm} (h : FitT t) : Fit (keyT L t) := by
  obtain ⟨o, m, d, ks⟩ := t
  exact keyF_fit h
/-- The map has just the keys of the table, each with its number. -/
structure MapOf {H : Type} (D : DataW H) (L : List Tm) : Prop where
  map : Maps.IsMap D
  has : ∀ (i : Nat) (t : Tm), L[i]? = some t → Maps.has D (kl (keyT L t)) = true ∧ ∀ z, D.atKey (kl (keyT L t)) z = .lit (.int .i64 i)
  only : ∀ k, Maps.has D k = true → ∃ (i : Nat) (t : Tm), L[i]? = some t ∧ k = kl (keyT L t)
theorem MapOf.start {H : Type} : MapOf (H := H) (.map []) [] := ⟨Maps.isMap_empty, fun i t h => by simp at h, fun k h => by simp [Maps.has] at h⟩
/-- What a lookup answers. -/
theorem MapOf.look {H : Type} {D : DataW H} {L : List Tm} (h : MapOf D L) (hc : Closed L) (hf : ∀ t ∈ L, FitT t) {t : Tm} (hk : KidsIn L t) (ht : FitT t) :
    (∃ i, findV t L = some i ∧ Maps.has D (kl (keyT L t)) = true ∧ ∀ z, D.atKey (kl (keyT L t)) z = .lit (.int .i64 i)) ∨ (findV t L = none ∧ Maps.has D (kl (keyT L t)) = false) := by
  cases e : findV t L with
  | some i =>
    obtain ⟨h1, h2⟩ := h.has i t (findV_some e).1
    exact .inl ⟨i, rfl, h1, h2⟩
  | none =>
    refine .inr ⟨rfl, ?_⟩
    cases hh : Maps.has D (kl (keyT L t)) with
    | false => rfl
    | true =>
      obtain ⟨i, s, hs, hks⟩ := h.only _ hh
      have hm := List.mem_of_getElem? hs
      have := kl_inj (keyT_fit ht) (keyT_fit (hf s hm)) hks
      rw [keyT_inj hk (closed_kids hc hm) this] at e
      exact absurd hm (findV_none.1 e)
/-- One more. -/
theorem MapOf.put {H : Type} {D : DataW H} {L : List Tm} (h : MapOf D L) (hc : Closed L) (hf : ∀ t ∈ L, FitT t) {t : Tm} (hk : KidsIn L t) (ht : FitT t) (hn : t ∉ L) :
    MapOf (D.put (kl (keyT L t)) (.lit (.int .i64 L.length))) (L ++ [t]) := by
  have hne : ∀ s ∈ L, kl (keyT L s) ≠ kl (keyT L t) := fun s hs e => by
    have := kl_inj (keyT_fit (hf s hs)) (keyT_fit ht) e
    rw [keyT_inj (closed_kids hc hs) hk this] at hs
    exact hn hs
  refine ⟨h.map.put _ _, fun i s e => ?_, fun k hh => ?_⟩
  · rcases Nat.lt_or_ge i L.length with hl | hl
    · rw [List.getElem?_append_left hl] at e
      have hs := List.mem_of_getElem? e
      rw [keyT_pre (closed_kids hc hs)]
      obtain ⟨h1, h2⟩ := h.has i s e
      refine ⟨by rw [Maps.has_put_other (hne s hs)]; exact h1, fun z => by rw [Maps.atKey_put_other (hne s hs)]; exact h2 z⟩
    · have hi : i = L.length := by
        have := (List.getElem?_eq_some_iff.1 e).1
        rw [List.length_append] at this
        simp at this
        omega
      subst hi
      rw [List.getElem?_append_right (Nat.le_refl _), Nat.sub_self] at e
      obtain rfl : t = s := Option.some.inj e
      rw [keyT_pre hk]
      exact ⟨Maps.has_put_same h.map (kl_key _) _, fun z => Maps.atKey_put_same h.map (kl_key _) _ z⟩
  · by_cases hkk : k = kl (keyT L t)
    · exact ⟨L.length, t, by rw [List.getElem?_append_right (Nat.le_refl _), Nat.sub_self]; rfl, by rw [keyT_pre hk]; exact hkk⟩
    · rw [Maps.has_put_other hkk] at hh
      obtain ⟨i, s, e, hks⟩ := h.only k hh
      refine ⟨i, s, by rw [List.getElem?_append_left (List.getElem?_eq_some_iff.1 e).1]; exact e, ?_⟩
      rw [keyT_pre (closed_kids hc (List.mem_of_getElem? e))]
      exact hks
end Go.Proofs.YtlhogjigdmpokaaGreatDoor.vtc
