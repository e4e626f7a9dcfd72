/- Terms in order, and powers: plain. Nothing here names the program. -/
import Derived.Test.YtlnclgpbobaedaaDoorTmW
namespace Go.Proofs.YtlnclgpbobaedaaDoor.tmc
open Go.RowKit Go.Proofs.YtlnclgpbobaedaaDoor.tlvc
set_option linter.unusedVariables false
def Le (a b : Tm) : Prop := ordT a b ≤ 0
theorem le_trans_ {a b c : Tm} (h : Le a b) (k : Le b c) : Le a c := (ordT_tri a b c h k).1
theorem le_refl_ (a : Tm) : Le a a := by unfold Le; rw [ordT_refl]; exact Int.le_refl _
theorem le_of_not {a b : Tm} (h : 0 < ordT a b) : Le b a := by unfold Le; rw [ordT_swap a b]; omega
theorem le_anti {a b : Tm} (h : Le a b) (k : Le b a) : a = b := ordT_zero (by unfold Le at h k; rw [ordT_swap a b] at k; omega)
theorem sorted_pair : ∀ {l : List Tm}, sortedL l = true ↔ l.Pairwise Le
  | [] => by simp [sortedL]
  | [a] => by simp [sortedL]
  | a :: b :: r => by
    rw [sortedL_two, Bool.and_eq_true, sorted_pair (l := b :: r), List.pairwise_cons (a := a)]
    constructor
    · rintro ⟨h1, h2⟩
      have h1 : ordT a b ≤ 0 := of_decide_eq_true h1
      refine ⟨fun c hc => ?_, h2⟩
      rcases List.mem_cons.1 hc with rfl | hc
      · exact h1
      · exact le_trans_ h1 ((List.pairwise_cons.1 h2).1 c hc)
    · rintro ⟨h1, h2⟩
      exact ⟨decide_eq_true (h1 b List.mem_cons_self), h2⟩
theorem sort_one {l l' : List Tm} (h : l.Pairwise Le) (h' : l'.Pairwise Le) (p : l.Perm l') : l = l' :=
  List.Perm.eq_of_pairwise (fun a b _ _ => le_anti) h h' p
/-- The place of a term among others: behind those that don't come behind it. -/
def atF (l : List Tm) (x : Tm) : Nat → Nat
  | 0 => 0
  | n + 1 => if 0 < ordT (l.getD n default) x then atF l x n else n + 1
theorem atF_le (l : List Tm) (x : Tm) : ∀ n, atF l x n ≤ n
  | 0 => Nat.le_refl _
  | n + 1 => by
    unfold atF
    split
    · exact Nat.le_succ_of_le (atF_le l x n)
    · exact Nat.le_refl _
theorem atF_spec (l : List Tm) (x : Tm) : ∀ n, (∀ j, atF l x n ≤ j → j < n → 0 < ordT (l.getD j default) x) ∧ (0 < atF l x n → ordT (l.getD (atF l x n - 1) default) x ≤ 0)
  | 0 => ⟨fun j _ h => absurd h (by omega), fun h => by unfold atF at h; omega⟩
  | n + 1 => by
    obtain ⟨i1, i2⟩ := atF_spec l x n
    unfold atF
    split
    · rename_i h
      refine ⟨fun j h1 h2 => ?_, i2⟩
      rcases Nat.lt_or_ge j n with h3 | h3
      · exact i1 j h1 h3
      · obtain rfl : j = n := by omega
        exact h
    · rename_i h
      refine ⟨fun j h1 h2 => by omega, fun _ => ?_⟩
      rw [Nat.add_sub_cancel]; omega
def putF (l : List Tm) (x : Tm) : List Tm := l.take (atF l x l.length) ++ x :: l.drop (atF l x l.length)
theorem putF_perm (l : List Tm) (x : Tm) : (putF l x).Perm (x :: l) := by
  unfold putF
  refine List.perm_middle.trans ?_
  rw [List.take_append_drop]
theorem putF_len (l : List Tm) (x : Tm) : (putF l x).length = l.length + 1 := by rw [(putF_perm l x).length_eq]; rfl
/-- What stands ahead of it, and what behind. -/
theorem putF_ahead {l : List Tm} (h : l.Pairwise Le) (x : Tm) : (∀ a ∈ l.take (atF l x l.length), Le a x) ∧ (∀ b ∈ l.drop (atF l x l.length), 0 < ordT b x) := by
  obtain ⟨s1, s2⟩ := atF_spec l x l.length
  have hle := atF_le l x l.length
  obtain ⟨p, hp⟩ : ∃ p, atF l x l.length = p := ⟨_, rfl⟩
  rw [hp] at s1 s2 hle ⊢
  constructor
  · intro a ha
    obtain ⟨i, hi, rfl⟩ := List.getElem_of_mem ha
    rw [List.length_take] at hi
    rw [List.getElem_take]
    have h2 : Le (l[p - 1]'(by omega)) x := by
      have := s2 (by omega)
      rwa [List.getD_eq_getElem?_getD, List.getElem?_eq_getElem (by omega), Option.getD_some] at this
    by_cases hip : i = p - 1
    · subst hip; exact h2
    · exact le_trans_ (List.pairwise_iff_getElem.1 h i (p - 1) (by omega) (by omega) (by omega)) h2
  · intro b hb
    obtain ⟨i, hi, rfl⟩ := List.getElem_of_mem hb
    rw [List.length_drop] at hi
    rw [List.getElem_drop]
    have := s1 (p + i) (by omega) (by omega)
    rwa [List.getD_eq_getElem?_getD, List.getElem?_eq_getElem (by omega), Option.getD_some] at this
theorem putF_sorted {l : List Tm} (h : l.Pairwise Le) (x : Tm) : (putF l x).Pairwise Le := by
  obtain ⟨h1, h2⟩ := putF_ahead h x
  unfold putF
  obtain ⟨p, hp⟩ : ∃ p, atF l x l.length = p := ⟨_, rfl⟩
  rw [hp] at h1 h2 ⊢
  rw [List.pairwise_append]
  refine ⟨h.sublist (List.take_sublist _ _), List.pairwise_cons.2 ⟨fun b hb => le_of_not (h2 b hb), h.sublist (List.drop_sublist _ _)⟩, fun a ha b hb => ?_⟩
  rcases List.mem_cons.1 hb with rfl | hb
  · exact h1 a ha
  · exact le_trans_ (h1 a ha) (le_of_not (h2 b hb))
/-- Terms in order. -/
def sortI (l : List Tm) : List Tm := l.foldl putF []
theorem sortI_snoc (l : List Tm) (x : Tm) : sortI (l ++ [x]) = putF (sortI l) x := by unfold sortI; rw [List.foldl_append]; rfl
theorem fold_perm : ∀ (l a : List Tm), (l.foldl putF a).Perm (a ++ l)
  | [], a => by simp
  | x :: l, a => by
    refine (fold_perm l (putF a x)).trans ?_
    refine ((putF_perm a x).append_right l).trans ?_
    exact List.perm_middle.symm
theorem sortI_perm (l : List Tm) : (sortI l).Perm l := fold_perm l []
theorem fold_sorted : ∀ (l a : List Tm), a.Pairwise Le → (l.foldl putF a).Pairwise Le
  | [], a, h => h
  | x :: l, a, h => fold_sorted l _ (putF_sorted h x)
theorem sortI_sorted (l : List Tm) : (sortI l).Pairwise Le := fold_sorted l [] List.Pairwise.nil
theorem sortI_of {l : List Tm} (h : l.Pairwise Le) : sortI l = l := sort_one (sortI_sorted l) h (sortI_perm l)
theorem sortI_uniq {l l' : List Tm} (h : l'.Pairwise Le) (p : l'.Perm l) : l' = sortI l := sort_one h (sortI_sorted l) (p.trans (sortI_perm l).symm)
theorem sortI_len (l : List Tm) : (sortI l).length = l.length := (sortI_perm l).length_eq
/-! ### A term whose powers are in order -/
mutual
def normF : Tm → Tm
  | .mk o m d ks => .mk o m d (if o = 7 then sortI (normL ks) else normL ks)
def normL : List Tm → List Tm
  | [] => []
  | k :: ks => normF k :: normL ks
end
theorem normL_map : ∀ ks : List Tm, normL ks = ks.map normF
  | [] => by unfold normL; rfl
  | k :: ks => by unfold normL; rw [normL_map ks]; rfl
theorem normF_mk (o m : Int) (d : List Int) (ks : List Tm) : normF (.mk o m d ks) = .mk o m d (if o = 7 then sortI (ks.map normF) else ks.map normF) := by unfold normF; rw [normL_map]
theorem map_same {f : Tm → Tm} : ∀ {l : List Tm}, (∀ k ∈ l, f k = k) → l.map f = l
  | [], _ => rfl
  | a :: l, h => by rw [List.map_cons, h a List.mem_cons_self, map_same fun k hk => h k (List.mem_cons_of_mem _ hk)]
theorem right_mk {o m : Int} {d : List Int} {ks : List Tm} {outer : Nat} : rightF (.mk o m d ks) outer = true ↔ outer < 16 ∧ aloneB o m d.length ks.length = true ∧ (∀ k ∈ ks, rightF k (outer + 1) = true) ∧ ks.Pairwise Le := by
  have e : rightF (.mk o m d ks) outer = (decide (outer < 16) && aloneB o m d.length ks.length && rightL ks (outer + 1) && sortedL ks) := by conv => lhs; unfold rightF
  rw [e, rightL_all, Bool.and_eq_true, Bool.and_eq_true, Bool.and_eq_true, List.all_eq_true, sorted_pair]
  constructor
  · rintro ⟨⟨⟨h1, h2⟩, h3⟩, h4⟩; exact ⟨of_decide_eq_true h1, h2, h3, h4⟩
  · rintro ⟨h1, h2, h3, h4⟩; exact ⟨⟨⟨decide_eq_true h1, h2⟩, h3⟩, h4⟩
theorem normF_right : ∀ (N : Nat) (n : Tm), szT n ≤ N → ∀ outer, rightF n outer = true → normF n = n
  | 0, .mk _ _ _ ks, h, _, _ => by unfold szT at h; omega
  | N + 1, .mk o m d ks, h, outer, hr => by
    obtain ⟨_, _, h3, h4⟩ := right_mk.1 hr
    unfold szT at h
    have hm : ks.map normF = ks := map_same fun k hk => normF_right N k (by have := szTs_mem hk; omega) _ (h3 k hk)
    rw [normF_mk, hm, sortI_of h4]
    split <;> rfl
theorem norm_right {n : Tm} {outer : Nat} (h : rightF n outer = true) : normF n = n := normF_right _ n (Nat.le_refl _) outer h
theorem normF_idem : ∀ (N : Nat) (n : Tm), szT n ≤ N → normF (normF n) = normF n
  | 0, .mk _ _ _ ks, h => by unfold szT at h; omega
  | N + 1, .mk o m d ks, h => by
    unfold szT at h
    have ih : ∀ k ∈ ks.map normF, normF k = k := fun k hk => by
      obtain ⟨k', hk', rfl⟩ := List.mem_map.1 hk
      exact normF_idem N k' (by have := szTs_mem hk'; omega)
    rw [normF_mk, normF_mk]
    by_cases h7 : o = 7
    · rw [if_pos h7, if_pos h7, map_same fun k hk => ih k ((sortI_perm _).mem_iff.1 hk), sortI_of (sortI_sorted _)]
    · rw [if_neg h7, if_neg h7, map_same ih]
theorem norm_idem (n : Tm) : normF (normF n) = normF n := normF_idem _ n (Nat.le_refl _)
theorem szTs_perm {l l' : List Tm} (h : l.Perm l') : szTs l = szTs l' := by
  induction h with
  | nil => rfl
  | cons x _ ih => unfold szTs; rw [ih]
  | swap x y l => unfold szTs; unfold szTs; omega
  | trans _ _ h1 h2 => rw [h1, h2]
theorem szTs_map {f : Tm → Tm} : ∀ {l : List Tm}, (∀ k ∈ l, szT (f k) = szT k) → szTs (l.map f) = szTs l
  | [], _ => rfl
  | a :: l, h => by rw [List.map_cons]; unfold szTs; rw [h a List.mem_cons_self, szTs_map fun k hk => h k (List.mem_cons_of_mem _ hk)]
theorem normF_sz : ∀ (N : Nat) (n : Tm), szT n ≤ N → szT (normF n) = szT n
  | 0, .mk _ _ _ ks, h => by unfold szT at h; omega
  | N + 1, .mk o m d ks, h => by
    unfold szT at h
    have ih : szTs (ks.map normF) = szTs ks := szTs_map fun k hk => normF_sz N k (by have := szTs_mem hk; omega)
    rw [normF_mk]
    by_cases h7 : o = 7
    · rw [if_pos h7]; unfold szT; rw [szTs_perm (sortI_perm _), ih]
    · rw [if_neg h7]; unfold szT; rw [ih]
theorem norm_sz (n : Tm) : szT (normF n) = szT n := normF_sz _ n (Nat.le_refl _)
/-! ### As much data as memory bears -/
mutual
def fitD : Tm → Prop
  | .mk _ _ d ks => d.length ≤ 140737488351232 ∧ fitDs ks
def fitDs : List Tm → Prop
  | [] => True
  | k :: ks => fitD k ∧ fitDs ks
end
theorem fitDs_all : ∀ {ks : List Tm}, fitDs ks ↔ ∀ k ∈ ks, fitD k
  | [] => by unfold fitDs; simp
  | k :: ks => by unfold fitDs; rw [fitDs_all (ks := ks)]; simp
theorem alone_data {o m : Int} {d k : Nat} (h : aloneB o m d k = true) : d ≤ 8192 ∧ k ≤ 4 := by
  unfold aloneB at h
  split at h
  · have := of_decide_eq_true h; omega
  · split at h
    · have := of_decide_eq_true h; omega
    · split at h
      · have := of_decide_eq_true h; omega
      · split at h
        · have := of_decide_eq_true h; omega
        · split at h
          · have := of_decide_eq_true h; omega
          · cases h
theorem right_fit : ∀ (N : Nat) (n : Tm), szT n ≤ N → ∀ outer, rightF n outer = true → fitD n
  | 0, .mk _ _ _ ks, h, _, _ => by unfold szT at h; omega
  | N + 1, .mk o m d ks, h, outer, hr => by
    obtain ⟨_, h2, h3, _⟩ := right_mk.1 hr
    unfold szT at h
    unfold fitD
    exact ⟨by have := (alone_data h2).1; omega, fitDs_all.2 fun k hk => right_fit N k (by have := szTs_mem hk; omega) _ (h3 k hk)⟩
theorem normF_fit : ∀ (N : Nat) (n : Tm), szT n ≤ N → fitD n → fitD (normF n)
  | 0, .mk _ _ _ ks, h, _ => by unfold szT at h; omega
  | N + 1, .mk o m d ks, h, hf => by
    unfold szT at h
    unfold fitD at hf
    obtain ⟨h1, h2⟩ := hf
    have ih : ∀ k ∈ ks.map normF, fitD k := fun k hk => by
      obtain ⟨k', hk', rfl⟩ := List.mem_map.1 hk
      exact normF_fit N k' (by have := szTs_mem hk'; omega) (fitDs_all.1 h2 k' hk')
    rw [normF_mk]
    unfold fitD
    refine ⟨h1, ?_⟩
    by_cases h7 : o = 7
    · rw [if_pos h7]; exact fitDs_all.2 fun k hk => ih k ((sortI_perm _).mem_iff.1 hk)
    · rw [if_neg h7]; exact fitDs_all.2 ih
/-! ### What lies in a right term -/
theorem right_down : ∀ (N : Nat) (n : Tm), szT n ≤ N → ∀ outer, rightF n (outer + 1) = true → rightF n outer = true
  | 0, .mk _ _ _ ks, h, _, _ => by unfold szT at h; omega
  | N + 1, .mk o m d ks, h, outer, hr => by
    obtain ⟨h1, h2, h3, h4⟩ := right_mk.1 hr
    unfold szT at h
    exact right_mk.2 ⟨by omega, h2, fun k hk => right_down N k (by have := szTs_mem hk; omega) _ (h3 k hk), h4⟩
theorem right_kids {o m : Int} {d : List Int} {ks : List Tm} (h : rightF (.mk o m d ks) 0 = true) {k : Tm} (hk : k ∈ ks) : rightF k 0 = true :=
  right_down _ k (Nat.le_refl _) 0 ((right_mk.1 h).2.2.1 k hk)
/-! ### Powers -/
/-- A power's power, before it is looked at. -/
def pow0 (t x : Tm) : Tm := .mk 7 0 [] (putF t.kids x)
def powF (t x : Tm) : Option Tm := if rightF t 0 = true ∧ rightF x 0 = true ∧ t.op = 7 then (if rightF (pow0 t x) 0 = true then some (pow0 t x) else none) else none
theorem norm_pow {t x : Tm} (ht : rightF t 0 = true) (hx : rightF x 0 = true) : normF (.mk 7 0 [] (t.kids ++ [x])) = pow0 t x := by
  obtain ⟨o, m, d, ks⟩ := t
  obtain ⟨_, _, h3, h4⟩ := right_mk.1 ht
  rw [normF_mk, if_pos rfl]
  unfold pow0
  simp only [Tm.kids]
  rw [map_same (l := ks ++ [x]) fun k hk => by
    rcases List.mem_append.1 hk with hk | hk
    · exact norm_right (h3 k hk)
    · rw [List.mem_singleton] at hk; subst hk; exact norm_right hx, sortI_snoc, sortI_of h4]
theorem pow0_sz (t x : Tm) : szT (pow0 t x) = szT t + szT x := by
  obtain ⟨o, m, d, ks⟩ := t
  show szTs (putF ks x) + 1 = (szTs ks + 1) + szT x
  rw [szTs_perm (putF_perm ks x)]
  show szT x + szTs ks + 1 = _
  omega
theorem put_two (a b : Tm) : putF [a] b = putF [b] a := by
  refine sort_one (putF_sorted (by simp) b) (putF_sorted (by simp) a) ?_
  exact (putF_perm [a] b).trans ((List.Perm.swap a b []).trans (putF_perm [b] a).symm)
/-- The power of nothing. -/
def exp0 : Tm := .mk 7 0 [] []
theorem pow0_one (x : Tm) : pow0 exp0 x = .mk 7 0 [] [x] := rfl
theorem exp0_right : rightF exp0 0 = true := by unfold exp0; rw [right_mk]; exact ⟨by omega, by decide, by simp, List.Pairwise.nil⟩
theorem powF_some {t x p : Tm} (h : powF t x = some p) : rightF t 0 = true ∧ rightF x 0 = true ∧ t.op = 7 ∧ p = pow0 t x ∧ rightF p 0 = true := by
  unfold powF at h
  split at h
  · rename_i h1
    split at h
    · rename_i h2
      cases h
      exact ⟨h1.1, h1.2.1, h1.2.2, rfl, h2⟩
    · cases h
  · cases h
/-- A power of two is the same whichever was first. -/
theorem pow_two {a b p q : Tm} (h1 : powF exp0 a = some p) (h2 : powF exp0 b = some q) : powF p b = powF q a := by
  obtain ⟨_, ha, _, rfl, hp⟩ := powF_some h1
  obtain ⟨_, hb, _, rfl, hq⟩ := powF_some h2
  unfold powF
  rw [if_pos (show rightF (pow0 exp0 a) 0 = true ∧ rightF b 0 = true ∧ (pow0 exp0 a).op = 7 from ⟨hp, hb, rfl⟩), if_pos (show rightF (pow0 exp0 b) 0 = true ∧ rightF a 0 = true ∧ (pow0 exp0 b).op = 7 from ⟨hq, ha, rfl⟩)]
  have e : pow0 (pow0 exp0 a) b = pow0 (pow0 exp0 b) a := by
    rw [pow0_one, pow0_one]
    unfold pow0
    simp only [Tm.kids]
    rw [put_two]
  rw [e]
end Go.Proofs.YtlnclgpbobaedaaDoor.tmc
