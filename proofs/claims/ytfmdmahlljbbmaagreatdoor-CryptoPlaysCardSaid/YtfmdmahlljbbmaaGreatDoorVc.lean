/- A term's key: what it is written as; a map that has just the keys of a table. Nothing here names the program. -/
import Derived.Test.YtfmdmahlljbbmaaGreatDoorVb
import Derived.Lib.ItoaLen
import Derived.Lib.BytesEntry
import Derived.Lib.UnsafeStr
import Derived.Maps.OwnSet
namespace Go.Proofs.YtfmdmahlljbbmaaGreatDoor.vtc
open Go.RowKit Go.Proofs.YtfmdmahlljbbmaaGreatDoor.tlvc Go.Proofs.YtfmdmahlljbbmaaGreatDoor.tmc
set_option linter.unusedVariables false
/-- A number's digits, as bytes. -/
def numL (n : Int) : List Int := (Lib.itoa n).map fun b => (b.toNat : Int)
def dec8 (l : List UInt8) : Nat := l.foldl (fun a b => a * 10 + (b.toNat - 48)) 0
theorem dig_nat {k : Nat} (h : k < 10) : (UInt8.ofNat (48 + k)).toNat = 48 + k := by
  rw [UInt8.toNat_ofNat']
  omega
theorem dec_digits : ∀ (N u : Nat), u ≤ N → dec8 (Lib.decDigits u) = u
  | 0, u, h => by
    obtain rfl : u = 0 := by omega
    rw [Lib.decDigits_one (by omega)]
    rfl
  | N + 1, u, h => by
    by_cases h10 : u < 10
    · rw [Lib.decDigits_one h10]
      show 0 * 10 + ((UInt8.ofNat (48 + u)).toNat - 48) = u
      rw [dig_nat h10]
      omega
    · have ih := dec_digits N (u / 10) (by omega)
      rw [Lib.decDigits, dif_neg h10]
      unfold dec8 at ih ⊢
      rw [List.foldl_append, ih]
      show u / 10 * 10 + ((UInt8.ofNat (48 + u % 10)).toNat - 48) = u
      rw [dig_nat (by omega)]
      omega
theorem digits_in : ∀ (N u : Nat), u ≤ N → ∀ b ∈ Lib.decDigits u, 48 ≤ b.toNat ∧ b.toNat ≤ 57
  | 0, u, h => by
    obtain rfl : u = 0 := by omega
    rw [Lib.decDigits_one (by omega)]
    intro b hb
    rw [List.mem_singleton.1 hb, dig_nat (by omega)]
    omega
  | N + 1, u, h => by
    by_cases h10 : u < 10
    · rw [Lib.decDigits_one h10]
      intro b hb
      rw [List.mem_singleton.1 hb, dig_nat h10]
      omega
    · rw [Lib.decDigits, dif_neg h10]
      intro b hb
      rcases List.mem_append.1 hb with hb | hb
      · exact digits_in N (u / 10) (by omega) b hb
      · rw [List.mem_singleton.1 hb, dig_nat (by omega)]
        omega
theorem itoa_inj {n k : Int} (h : Lib.itoa n = Lib.itoa k) : n = k := by
  have e := fun u => dec_digits u u (Nat.le_refl _)
  have g := fun u => digits_in u u (Nat.le_refl _)
  have no : ∀ u r, Lib.decDigits u ≠ 45 :: r := fun u r hh => by
    have := g u 45 (by rw [hh]; simp)
    have h45 : (45 : UInt8).toNat = 45 := rfl
    omega
  unfold Lib.itoa at h
  split at h
  · split at h
    · have h2 := e n.natAbs
      rw [List.cons.inj h |>.2, e] at h2
      omega
    · exact absurd h.symm (no _ _)
  · split at h
    · exact absurd h (no _ _)
    · have h2 := e n.toNat
      rw [h, e] at h2
      omega
theorem u8_inj : ∀ {a b : List UInt8}, (a.map fun x => (x.toNat : Int)) = (b.map fun x => (x.toNat : Int)) → a = b
  | [], [], _ => rfl
  | [], y :: b, h => by cases h
  | x :: a, [], h => by cases h
  | x :: a, y :: b, h => by
    rw [List.map_cons, List.map_cons] at h
    obtain ⟨h1, h2⟩ := List.cons.inj h
    rw [u8_inj h2, UInt8.toNat_inj.1 (show x.toNat = y.toNat by omega)]
theorem numL_inj {n k : Int} (h : numL n = numL k) : n = k := itoa_inj (u8_inj h)
/-- No blank and no colon. -/
def Pure (l : List Int) : Prop := ∀ x ∈ l, x ≠ 32 ∧ x ≠ 58
theorem numL_in (n : Int) : ∀ x ∈ numL n, 45 ≤ x ∧ x ≤ 57 := by
  intro x hx
  obtain ⟨b, hb, rfl⟩ := List.mem_map.1 hx
  unfold Lib.itoa at hb
  split at hb
  · rcases List.mem_cons.1 hb with rfl | hb
    · exact ⟨by decide, by decide⟩
    · have := digits_in _ _ (Nat.le_refl _) b hb
      omega
  · have := digits_in _ _ (Nat.le_refl _) b hb
    omega
theorem numL_pure (n : Int) : Pure (numL n) := fun x hx => by have := numL_in n x hx; omega
theorem numL_fit (n : Int) : Fit (numL n) := fun x hx => by have := numL_in n x hx; omega
theorem numL_len {n : Int} (h : I64 n) : (numL n).length ≤ 21 := by
  unfold numL
  rw [List.length_map]
  exact Lib.itoa_length_le n h.1 h.2
theorem cells_numL (n : Int) : Lib.byteCells (Lib.itoa n) = vals (numL n) := by
  unfold Lib.byteCells vals numL
  rw [List.map_map]
  rfl
theorem part {a a' : List Int} {x x' : Int} {r r' : List Int} (ha : Pure a) (ha' : Pure a') (hx : x = 32 ∨ x = 58) (hx' : x' = 32 ∨ x' = 58) (h : a ++ x :: r = a' ++ x' :: r') : a = a' ∧ x = x' ∧ r = r' := by
  induction a generalizing a' with
  | nil =>
    cases a' with
    | nil => obtain ⟨h1, h2⟩ := List.cons.inj h; exact ⟨rfl, h1, h2⟩
    | cons y a' =>
      obtain ⟨h1, _⟩ := List.cons.inj h
      have := ha' y (by simp)
      omega
  | cons y a ih =>
    cases a' with
    | nil =>
      obtain ⟨h1, _⟩ := List.cons.inj h
      have := ha y (by simp)
      omega
    | cons y' a' =>
      obtain ⟨h1, h2⟩ := List.cons.inj h
      obtain ⟨g1, g2, g3⟩ := ih (fun z hz => ha z (List.mem_cons_of_mem _ hz)) (fun z hz => ha' z (List.mem_cons_of_mem _ hz)) h2
      exact ⟨by rw [h1, g1], g2, g3⟩
/-- The kids' numbers and the data. -/
def restK : List Int → List Int → List Int
  | [], d => 58 :: d
  | k :: ks, d => 32 :: (numL k ++ restK ks d)
def keyF (o m : Int) (ks d : List Int) : List Int := numL o ++ 32 :: (numL m ++ restK ks d)
theorem restK_head (ks d : List Int) : ∃ x r, restK ks d = x :: r ∧ (x = 32 ∨ x = 58) := by
  cases ks with
  | nil => exact ⟨_, _, rfl, .inr rfl⟩
  | cons k ks => exact ⟨_, _, rfl, .inl rfl⟩
theorem restK_inj : ∀ {ks ks' d d' : List Int}, restK ks d = restK ks' d' → ks = ks' ∧ d = d'
  | [], [], d, d', h => ⟨rfl, (List.cons.inj h).2⟩
  | [], k :: ks, d, d', h => by have := (List.cons.inj h).1; omega
  | k :: ks, [], d, d', h => by have := (List.cons.inj h).1; omega
  | k :: ks, k' :: ks', d, d', h => by
    have h2 := (List.cons.inj h).2
    obtain ⟨x, r, e, hx⟩ := restK_head ks d
    obtain ⟨x', r', e', hx'⟩ := restK_head ks' d'
    rw [e, e'] at h2
    obtain ⟨g1, g2, g3⟩ := part (numL_pure k) (numL_pure k') hx hx' h2
    subst g2 g3
    obtain ⟨i1, i2⟩ := restK_inj (e.trans e'.symm)
    exact ⟨by rw [numL_inj g1, i1], i2⟩
theorem keyF_inj {o m o' m' : Int} {ks d ks' d' : List Int} (h : keyF o m ks d = keyF o' m' ks' d') : o = o' ∧ m = m' ∧ ks = ks' ∧ d = d' := by
  unfold keyF at h
  obtain ⟨g1, _, g2⟩ := part (numL_pure o) (numL_pure o') (.inl rfl) (.inl rfl) h
  obtain ⟨x, r, e, hx⟩ := restK_head ks d
  obtain ⟨x', r', e', hx'⟩ := restK_head ks' d'
  rw [e, e'] at g2
  obtain ⟨f1, f2, f3⟩ := part (numL_pure m) (numL_pure m') hx hx' g2
  subst f2 f3
  obtain ⟨i1, i2⟩ := restK_inj (e.trans e'.symm)
  exact ⟨numL_inj g1, numL_inj f1, i1, i2⟩
theorem restK_fit : ∀ {ks d : List Int}, Fit d → Fit (restK ks d)
  | [], d, h => fun x hx => by
    rcases List.mem_cons.1 hx with rfl | hx
    · omega
    · exact h x hx
  | k :: ks, d, h => fun x hx => by
    rcases List.mem_cons.1 hx with rfl | hx
    · omega
    · rcases List.mem_append.1 hx with hx | hx
      · exact numL_fit k x hx
      · exact restK_fit h x hx
theorem keyF_fit {o m : Int} {ks d : List Int} (h : Fit d) : Fit (keyF o m ks d) := fun x hx => by
  rcases List.mem_append.1 hx with hx | hx
  · exact numL_fit o x hx
  · rcases List.mem_cons.1 hx with rfl | hx
    · omega
    · rcases List.mem_append.1 hx with hx | hx
      · exact numL_fit m x hx
      · exact restK_fit h x hx
/-- All ahead of the colon, up to the first i kids. -/
def preK (o m : Int) (ks : List Int) : List Int := numL o ++ 32 :: (numL m ++ ks.flatMap fun k => 32 :: numL k)
theorem restK_flat : ∀ (ks d : List Int), restK ks d = (ks.flatMap fun k => 32 :: numL k) ++ 58 :: d
  | [], d => rfl
  | k :: ks, d => by
    rw [List.flatMap_cons]
    unfold restK
    rw [restK_flat ks d]
    simp
theorem preK_key (o m : Int) (ks d : List Int) : preK o m ks ++ 58 :: d = keyF o m ks d := by
  unfold preK keyF
  rw [restK_flat]
  simp
theorem preK_snoc (o m : Int) (ks : List Int) (k : Int) : preK o m ks ++ 32 :: numL k = preK o m (ks ++ [k]) := by
  unfold preK
  rw [List.flatMap_append]
  simp
theorem preK_nil (o m : Int) : preK o m [] = numL o ++ 32 :: numL m := by unfold preK; simp
theorem preK_len {o m : Int} {ks : List Int} (ho : I64 o) (hm : I64 m) (hk : Fit8 ks) : (preK o m ks).length ≤ 43 + 22 * ks.length := by
  have h1 := numL_len ho
  have h2 := numL_len hm
  have h3 : (ks.flatMap fun k => 32 :: numL k).length ≤ 22 * ks.length := by
    induction ks with
    | nil => simp
    | cons k ks ih =>
      rw [List.flatMap_cons, List.length_append, List.length_cons, List.length_cons]
      have := ih fun x hx => hk x (List.mem_cons_of_mem _ hx)
      have := numL_len (show I64 k from hk k (by simp))
      omega
  unfold preK
  rw [List.length_append, List.length_cons, List.length_append]
  omega
theorem keyF_len {o m : Int} {ks d : List Int} (ho : I64 o) (hm : I64 m) (hk : Fit8 ks) : (keyF o m ks d).length ≤ 44 + 22 * ks.length + d.length := by
  rw [← preK_key, List.length_append, List.length_cons]
  have := preK_len ho hm hk
  omega
theorem strNums_inj {a b : List Int} (ha : Fit a) (hb : Fit b) (h : strOfNums a = strOfNums b) : a = b := by
  have h2 : (strOfNums a).data.toList = (strOfNums b).data.toList := by rw [h]
  rw [strOfNums_data, strOfNums_data] at h2
  clear h
  induction a generalizing b with
  | nil =>
    cases b with
    | nil => rfl
    | cons y b => cases h2
  | cons x a ih =>
    cases b with
    | nil => cases h2
    | cons y b =>
      rw [List.map_cons, List.map_cons] at h2
      obtain ⟨g1, g2⟩ := List.cons.inj h2
      have hx := ha x (by simp)
      have hy := hb y (by simp)
      have e : x = y := by
        have := congrArg UInt8.toNat g1
        rw [UInt8.toNat_ofNat', UInt8.toNat_ofNat'] at this
        omega
      rw [e, ih (fun z hz => ha z (List.mem_cons_of_mem _ hz)) (fun z hz => hb z (List.mem_cons_of_mem _ hz)) g2]
/-- The numbers of a term's kids. -/
def kidsN (L ks : List Tm) : List Int := ks.map fun k => (((findV k L).getD 0 : Nat) : Int)
theorem kidsN_len (L ks : List Tm) : (kidsN L ks).length = ks.length := List.length_map ..
theorem kidsN_nil (L : List Tm) : kidsN L [] = [] := rfl
theorem kidsN_at (L ks : List Tm) {i : Nat} {k : Tm} (h : ks[i]? = some k) : kidsN L (ks.take (i + 1)) = kidsN L (ks.take i) ++ [(((findV k L).getD 0 : Nat) : Int)] := by
  obtain ⟨hi, rfl⟩ := List.getElem?_eq_some_iff.1 h
  unfold kidsN
  rw [List.take_succ_eq_append_getElem hi, List.map_append]
  rfl
/-- A term's key. -/
def keyT (L : List Tm) : Tm → List Int
  | .mk o m d ks => keyF o m (kidsN L ks) d
theorem findV_lt {L : List Tm} {t : Tm} {i : Nat} (h : findV t L = some i) : i < L.length := (List.getElem?_eq_some_iff.1 (findV_some h).1).1
theorem kidsN_fit {L ks : List Tm} (hL : L.length ≤ 100000) : Fit8 (kidsN L ks) := fun x hx => by
  obtain ⟨k, _, rfl⟩ := List.mem_map.1 hx
  cases e : findV k L with
  | none => simp
  | some i => have := findV_lt e; simp; omega
theorem kidsN_inj {L : List Tm} : ∀ {ks ks' : List Tm}, (∀ k ∈ ks, k ∈ L) → (∀ k ∈ ks', k ∈ L) → kidsN L ks = kidsN L ks' → ks = ks'
  | [], [], _, _, _ => rfl
  | [], k :: ks, _, _, h => by cases h
  | k :: ks, [], _, _, h => by cases h
  | k :: ks, k' :: ks', h1, h2, h => by
    obtain ⟨e1, e2⟩ := List.cons.inj (show (((findV k L).getD 0 : Nat) : Int) :: kidsN L ks = (((findV k' L).getD 0 : Nat) : Int) :: kidsN L ks' from h)
    obtain ⟨i, hi⟩ := findV_mem (h1 k (by simp))
    obtain ⟨j, hj⟩ := findV_mem (h2 k' (by simp))
    rw [hi, hj] at e1
    simp only [Option.getD_some] at e1
    have hij : i = j := by omega
    subst hij
    have := (findV_some hi).1.symm.trans (findV_some hj).1
    rw [Option.some.inj this, kidsN_inj (fun x hx => h1 x (List.mem_cons_of_mem _ hx)) (fun x hx => h2 x (List.mem_cons_of_mem _ hx)) e2]
/-- All its kids are there. -/
def KidsIn (L : List Tm) : Tm → Prop
  | .mk _ _ _ ks => ∀ k ∈ ks, k ∈ L
theorem keyT_inj {L : List Tm} {s t : Tm} (hs : KidsIn L s) (ht : KidsIn L t) (h : keyT L s = keyT L t) : s = t := by
  obtain ⟨o, m, d, ks⟩ := s
  obtain ⟨o', m', d', ks'⟩ := t
  obtain ⟨e1, e2, e3, e4⟩ := keyF_inj h
  rw [e1, e2, e4, kidsN_inj hs ht e3]
theorem findV_pre {L r : List Tm} {t : Tm} {i : Nat} (h : findV t L = some i) : findV t (L ++ r) = some i := by
  induction L generalizing i with
  | nil => cases h
  | cons x L ih =>
    rw [List.cons_append]
    unfold findV at h ⊢
    split
    · rename_i hx; rw [if_pos hx] at h; exact h
    · rename_i hx
      rw [if_neg hx] at h
      obtain ⟨k, hk, rfl⟩ := Option.map_eq_some_iff.1 h
      rw [ih hk]
      rfl
theorem kidsN_pre {L r : List Tm} : ∀ {ks : List Tm}, (∀ k ∈ ks, k ∈ L) → kidsN (L ++ r) ks = kidsN L ks
  | [], _ => rfl
  | k :: ks, h => by
    obtain ⟨i, hi⟩ := findV_mem (h k (by simp))
    show (((findV k (L ++ r)).getD 0 : Nat) : Int) :: kidsN (L ++ r) ks = (((findV k L).getD 0 : Nat) : Int) :: kidsN L ks
    rw [findV_pre hi, hi, kidsN_pre fun x hx => h x (List.mem_cons_of_mem _ hx)]
theorem keyT_pre {L r : List Tm} {t : Tm} (h : KidsIn L t) : keyT (L ++ r) t = keyT L t := by
  obtain ⟨o, m, d, ks⟩ := t
  show keyF o m (kidsN (L ++ r) ks) d = keyF o m (kidsN L ks) d
  rw [kidsN_pre h]
theorem closed_kids {L : List Tm} (h : Closed L) {t : Tm} (ht : t ∈ L) : KidsIn L t := by
  obtain ⟨o, m, d, ks⟩ := t
  obtain ⟨i, hi⟩ := List.getElem?_of_mem ht
  intro k hk
  obtain ⟨j, _, e⟩ := h i o m d ks hi k hk
  exact List.mem_of_getElem? e
/-- A key as the map takes it. -/
def kl (xs : List Int) : Lit := .string (strOfNums xs).data.toList
theorem kl_inj {a b : List Int} (ha : Fit a) (hb : Fit b) (h : kl a = kl b) : a = b := by
  refine strNums_inj ha hb ?_
  have h2 := Lit.string.inj h
  apply ByteArray.ext
  exact Array.toList_inj.1 h2
theorem kl_key (xs : List Int) : WideAt.IsKeyLit (kl xs) := by unfold kl; simp [WideAt.IsKeyLit]
/-- The data are bytes. -/
def FitT : Tm → Prop
  | .mk _ _ d _ => Fit d
theorem keyT_fit {L : List Tm} {t : Tm} (h : FitT t) : Fit (keyT L t) := by
  obtain ⟨o, m, d, ks⟩ := t
  exact keyF_fit h
/-- The map has just the keys of the table, each with its number. -/
structure MapOf {H : Type} (D : DataW H) (L : List Tm) : Prop where
  map : Maps.IsMap D
  has : ∀ (i : Nat) (t : Tm), L[i]? = some t → Maps.has D (kl (keyT L t)) = true ∧ ∀ z, D.atKey (kl (keyT L t)) z = .lit (.int .i64 i)
  only : ∀ k, Maps.has D k = true → ∃ (i : Nat) (t : Tm), L[i]? = some t ∧ k = kl (keyT L t)
theorem MapOf.start {H : Type} : MapOf (H := H) (.map []) [] := ⟨Maps.isMap_empty, fun i t h => by simp at h, fun k h => by simp [Maps.has] at h⟩
/-- What a lookup answers. -/
theorem MapOf.look {H : Type} {D : DataW H} {L : List Tm} (h : MapOf D L) (hc : Closed L) (hf : ∀ t ∈ L, FitT t) {t : Tm} (hk : KidsIn L t) (ht : FitT t) :
    (∃ i, findV t L = some i ∧ Maps.has D (kl (keyT L t)) = true ∧ ∀ z, D.atKey (kl (keyT L t)) z = .lit (.int .i64 i)) ∨ (findV t L = none ∧ Maps.has D (kl (keyT L t)) = false) := by
  cases e : findV t L with
  | some i =>
    obtain ⟨h1, h2⟩ := h.has i t (findV_some e).1
    exact .inl ⟨i, rfl, h1, h2⟩
  | none =>
    refine .inr ⟨rfl, ?_⟩
    cases hh : Maps.has D (kl (keyT L t)) with
    | false => rfl
    | true =>
      obtain ⟨i, s, hs, hks⟩ := h.only _ hh
      have hm := List.mem_of_getElem? hs
      have := kl_inj (keyT_fit ht) (keyT_fit (hf s hm)) hks
      rw [keyT_inj hk (closed_kids hc hm) this] at e
      exact absurd hm (findV_none.1 e)
/-- One more. -/
theorem MapOf.put {H : Type} {D : DataW H} {L : List Tm} (h : MapOf D L) (hc : Closed L) (hf : ∀ t ∈ L, FitT t) {t : Tm} (hk : KidsIn L t) (ht : FitT t) (hn : t ∉ L) :
    MapOf (D.put (kl (keyT L t)) (.lit (.int .i64 L.length))) (L ++ [t]) := by
  have hne : ∀ s ∈ L, kl (keyT L s) ≠ kl (keyT L t) := fun s hs e => by
    have := kl_inj (keyT_fit (hf s hs)) (keyT_fit ht) e
    rw [keyT_inj (closed_kids hc hs) hk this] at hs
    exact hn hs
  refine ⟨h.map.put _ _, fun i s e => ?_, fun k hh => ?_⟩
  · rcases Nat.lt_or_ge i L.length with hl | hl
    · rw [List.getElem?_append_left hl] at e
      have hs := List.mem_of_getElem? e
      rw [keyT_pre (closed_kids hc hs)]
      obtain ⟨h1, h2⟩ := h.has i s e
      refine ⟨by rw [Maps.has_put_other (hne s hs)]; exact h1, fun z => by rw [Maps.atKey_put_other (hne s hs)]; exact h2 z⟩
    · have hi : i = L.length := by
        have := (List.getElem?_eq_some_iff.1 e).1
        rw [List.length_append] at this
        simp at this
        omega
      subst hi
      rw [List.getElem?_append_right (Nat.le_refl _), Nat.sub_self] at e
      obtain rfl : t = s := Option.some.inj e
      rw [keyT_pre hk]
      exact ⟨Maps.has_put_same h.map (kl_key _) _, fun z => Maps.atKey_put_same h.map (kl_key _) _ z⟩
  · by_cases hkk : k = kl (keyT L t)
    · exact ⟨L.length, t, by rw [List.getElem?_append_right (Nat.le_refl _), Nat.sub_self]; rfl, by rw [keyT_pre hk]; exact hkk⟩
    · rw [Maps.has_put_other hkk] at hh
      obtain ⟨i, s, e, hks⟩ := h.only k hh
      refine ⟨i, s, by rw [List.getElem?_append_left (List.getElem?_eq_some_iff.1 e).1]; exact e, ?_⟩
      rw [keyT_pre (closed_kids hc (List.mem_of_getElem? e))]
      exact hks
end Go.Proofs.YtfmdmahlljbbmaaGreatDoor.vtc
