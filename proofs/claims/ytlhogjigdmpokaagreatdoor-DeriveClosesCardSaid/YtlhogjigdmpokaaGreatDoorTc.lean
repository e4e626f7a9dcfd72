/- Which terms are right: plain, and the program's. Terms in order, and powers: plain. Nothing here names the program. Terms one behind the other in a list of cells. Nothing here names the program. bytes.Clone and slices.Clone; append of terms. Norm's worlds: what a round keeps. terms.Norm: a term whose powers are in order, all its lists new. slices.SortFunc at terms, by Order. terms.Norm's contract. -/
import Derived.Test.YtlhogjigdmpokaaGreatDoorTb
import Derived.Outline
import Derived.BigQuiet
import Derived.Deep.QuietTactic
import Derived.Test.YtlhogjigdmpokaaGreatDoorTa
import Derived.Laws.Cover3
import Derived.RegionTactic
import Derived.Deep.LoopGhost
import Derived.Deep.RegionHeld3
import Derived.StillTailTactics
import Derived.Deep.Heap
import Derived.Test.YtlhogjigdmpokaaGreatDoorShelf
import Derived.Shelf.SlSortCmp.NoneTotal
namespace Go.Proofs.YtlhogjigdmpokaaGreatDoor.tmc
open Go.RowKit Go.Proofs.YtlhogjigdmpokaaGreatDoor.tlvc
set_option linter.unusedVariables false
/-- Is a term right, whatever its kids are? -/
def aloneB (o m : Int) (d k : Nat) : Bool :=
  if o = 1 then decide (k = 0 ∧ d = 0 ∧ 0 ≤ m ∧ m ≤ 1099511627776)
  else if o = 2 then decide (k = 1 ∧ d = 0 ∧ m = 0)
  else if o = 3 ∨ o = 4 ∨ o = 6 then decide (k = 1 ∧ d ≤ 8192 ∧ m = 0)
  else if o = 5 then decide (k = 0 ∧ d ≤ 8192 ∧ m = 0)
  else if o = 7 then decide (k ≤ 4 ∧ d = 0 ∧ m = 0)
  else false
/-- Do they not fall? -/
def sortedL : List Tm → Bool
  | [] => true
  | a :: r => match r with
    | [] => true
    | b :: _ => decide (ordT a b ≤ 0) && sortedL r
mutual
def rightF : Tm → Nat → Bool
  | .mk o m d ks, outer => decide (outer < 16) && aloneB o m d.length ks.length && rightL ks (outer + 1) && sortedL ks
def rightL : List Tm → Nat → Bool
  | [], _ => true
  | k :: ks, outer => rightF k outer && rightL ks outer
end
theorem rightL_all : ∀ (ks : List Tm) (outer : Nat), rightL ks outer = ks.all (fun k => rightF k outer)
  | [], _ => by unfold rightL; rfl
  | k :: ks, outer => by unfold rightL; rw [rightL_all ks outer]; rfl
theorem sortedL_two (a b : Tm) (r : List Tm) : sortedL (a :: b :: r) = (decide (ordT a b ≤ 0) && sortedL (b :: r)) := by conv => lhs; unfold sortedL
theorem sortedL_tail {a : Tm} {r : List Tm} (h : sortedL (a :: r) = true) : sortedL r = true := by
  cases r with
  | nil => rfl
  | cons b r => rw [sortedL_two, Bool.and_eq_true] at h; exact h.2
theorem sortedL_drop : ∀ (i : Nat) (ks : List Tm), sortedL ks = true → sortedL (ks.drop i) = true
  | 0, _, h => h
  | _ + 1, [], h => h
  | i + 1, a :: r, h => sortedL_drop i r (sortedL_tail h)
theorem sortedL_pair {ks : List Tm} {i : Nat} (h : i + 1 < ks.length) : sortedL (ks.drop i) = (decide (ordT (ks[i]'(by omega)) ks[i + 1] ≤ 0) && sortedL (ks.drop (i + 1))) := by
  rw [List.drop_eq_getElem_cons (by omega), List.drop_eq_getElem_cons h, sortedL_two]
theorem sortedL_last {ks : List Tm} {i : Nat} (h : ks.length ≤ i + 1) : sortedL (ks.drop i) = true := by
  rcases Nat.lt_or_ge i ks.length with h1 | h1
  · rw [List.drop_eq_getElem_cons h1, List.drop_eq_nil_of_le (by omega)]; rfl
  · rw [List.drop_eq_nil_of_le h1]; rfl
set_option maxRecDepth 100000 in
set_option maxHeartbeats 8000000 in
theorem sorted_any (C : Nat → Prop) (ks : List Tm) (A : Option Addr) (la ca : Nat) (w : World) (e1 : ks.length = la) (hA : TmsB C w A ks) (hc1 : la ≤ ca) (hm1 : ca ≤ maxLen) :
    Calls Tryz.prog 85 #[.slice A la ca, .func (.func 70) #[] #[]] w fun e w' => e = .returned (.bool (sortedL ks)) ∧ Below w.heap.size w w' := by
  have hen := enters_of Tryz.func70 (by kernel_rfl) rfl
  obtain ⟨ANS, hANS⟩ : ∃ x, sortedL ks = x := ⟨_, rfl⟩
  rw [hANS]
  have HN := Lib.hid hANS
  have HA := Lib.hid hA
  have h9 : ca ≤ 9223372036854775807 := by unfold maxLen at hm1; omega
  have hlast := sortedL_last (ks := ks) (i := la - 1) (by omega)
  have HL := Lib.hid hlast
  clear hA hANS hlast
  by_cases h0 : la = 0
  · have hE : ANS = true := by
      rw [← HN.out, List.eq_nil_of_length_eq_zero (by omega : ks.length = 0)]; rfl
    clear HN HL
    subst hE h0
    go_enter Tryz.func85, Tryz.ntmps85
    go_wp2_with fail
    refine wp_loop_rounds 1 ?_; rw [rounds_succ]; go_wp2
    go_ret
    exact ⟨rfl, Below.refl _ _⟩
  · have hw0 : IntKind.i64.wrap ((la : Int) - 1) = ((la - 1 : Nat) : Int) := by rw [IntWalk.i64_in _ (by omega)]; omega
    go_enter Tryz.func85, Tryz.ntmps85
    go_wp2_with fail
    go_loopg [5] (la + 1) (fun gk s5 wx => ∃ (i : Nat), s5 = .int .i64 i ∧ i < la ∧ i < gk ∧ Hid (sortedL (ks.drop i) = true) ∧ Below w.heap.size w wx)
    case atStart => exact ⟨la - 1, by first | rfl | (congr 1; omega), by omega, by omega, HL, Below.refl _ _⟩
    case round =>
      obtain ⟨i, rfl, hi, hgk, hq, hbel⟩ := hrel
      clear hw0
      by_cases hlt : 0 < i
      · obtain ⟨j, hj⟩ : ∃ j, i = j + 1 := ⟨i - 1, by omega⟩
        obtain ⟨gk', rfl⟩ : ∃ g', gk = g' + 1 := ⟨gk - 1, by omega⟩
        obtain ⟨g, off, rfl, hg, hBg, hks⟩ := HA.out (by omega)
        have hk := KidsC.below hbel hg hBg ks off hks
        obtain ⟨d0, d1, d2, d3, p0, p1, p2, p3, hd⟩ := hk.at i (by omega)
        obtain ⟨f0, f1, f2, f3, q0, q1, q2, q3, hf⟩ := hk.at j (by omega)
        have hst : sortedL (ks.drop j) = (decide (ordT (ks[j]'(by omega)) (ks[i]'(by omega)) ≤ 0) && sortedL (ks.drop i)) := by
          subst hj
          exact sortedL_pair (ks := ks) (i := j) (by omega)
        have hsw := ordT_swap (ks[j]'(by omega)) (ks[i]'(by omega))
        have ih := order_any (ks[i]'(by omega)) (ks[j]'(by omega)) C C (.agg #[d0, d1, d2, d3]) (.agg #[f0, f1, f2, f3]) wr.drew ⟨_, _, _, _, rfl, TmC.below (Below.refl _ _).drew _ _ _ _ _ hd⟩ ⟨_, _, _, _, rfl, TmC.below (Below.refl _ _).drew _ _ _ _ _ hf⟩
        have hq2 := hq.out
        rw [hq2, Bool.and_true] at hst
        obtain ⟨r, hr⟩ : ∃ x, ordT (ks[j]'(by omega)) (ks[i]'(by omega)) = x := ⟨_, rfl⟩
        rw [hr] at hst hsw
        rw [hsw] at ih
        have hb := ordT_sg (ks[j]'(by omega)) (ks[i]'(by omega))
        rw [hr] at hb
        unfold Sg at hb
        have IH2 := Lib.hid ih
        have ST := Lib.hid hst
        have Y0 : ({ heap := wr.heap, tape := wr.tape, drawn := wr.drawn + 1, os := wr.os, output := wr.output } : World).cell? ⟨g, off + i * 4, none⟩ = some d0 := p0
        have Y1 : ({ heap := wr.heap, tape := wr.tape, drawn := wr.drawn + 1, os := wr.os, output := wr.output } : World).cell? ⟨g, off + i * 4 + 1, none⟩ = some d1 := p1
        have Y2 : ({ heap := wr.heap, tape := wr.tape, drawn := wr.drawn + 1, os := wr.os, output := wr.output } : World).cell? ⟨g, off + i * 4 + 2, none⟩ = some d2 := p2
        have Y3 : ({ heap := wr.heap, tape := wr.tape, drawn := wr.drawn + 1, os := wr.os, output := wr.output } : World).cell? ⟨g, off + i * 4 + 3, none⟩ = some d3 := p3
        have Z0 : ({ heap := wr.heap, tape := wr.tape, drawn := wr.drawn + 1, os := wr.os, output := wr.output } : World).cell? ⟨g, off + j * 4, none⟩ = some f0 := q0
        have Z1 : ({ heap := wr.heap, tape := wr.tape, drawn := wr.drawn + 1, os := wr.os, output := wr.output } : World).cell? ⟨g, off + j * 4 + 1, none⟩ = some f1 := q1
        have Z2 : ({ heap := wr.heap, tape := wr.tape, drawn := wr.drawn + 1, os := wr.os, output := wr.output } : World).cell? ⟨g, off + j * 4 + 2, none⟩ = some f2 := q2
        have Z3 : ({ heap := wr.heap, tape := wr.tape, drawn := wr.drawn + 1, os := wr.os, output := wr.output } : World).cell? ⟨g, off + j * 4 + 3, none⟩ = some f3 := q3
        have hlz : (0 : Int) < (i : Int) := by omega
        have hwj : IntKind.i64.wrap ((i : Int) - 1) = (j : Int) := by rw [IntWalk.i64_in _ (by omega)]; omega
        have i1 : (0 : Int) ≤ (i : Int) := by omega
        have i2 : (i : Int) < (la : Int) := by omega
        have i3 : (0 : Int) ≤ (j : Int) := by omega
        have i4 : (j : Int) < (la : Int) := by omega
        have hji : j < i := by omega
        clear ih hj hq2 hst hr hd hf hks hk hq hsw
        go_wp2_with fail
        go_still_tail 10, (by kernel_rfl)
        change wpList _ _ _ _ _ wr.drew
        have hbel1 := hbel.drew
        obtain ⟨w2, hw2⟩ : ∃ x, wr.drew = x := ⟨_, rfl⟩
        rw [hw2] at IH2 hbel1 ⊢
        clear hw2 Y0 Y1 Y2 Y3 Z0 Z1 Z2 Z3 p0 p1 p2 p3 q0 q1 q2 q3 hbel
        go_wp2_with fail
        refine IH2.out.mono ?_
        rintro e w3 ⟨rfl, hb3⟩
        have hbel3 := below_then hbel1 hb3 (Nat.le_refl _)
        clear IH2 hb3 hbel1
        by_cases hr0 : r ≤ 0
        · have hz : ¬ (-r) < 0 := by omega
          have Q3 : Hid (sortedL (ks.drop j) = true) := Lib.hid (by rw [ST.out]; exact decide_eq_true hr0)
          clear ST HN
          go_wp2
          go_roundg gk'
          case measure => omega
          case rel => exact ⟨j, by first | rfl | go_num, by omega, by omega, Q3, hbel3⟩
        · have hz : (-r) < 0 := by omega
          have hE : ANS = false := by
            rw [← HN.out]
            cases hs : sortedL ks with
            | false => rfl
            | true =>
              have := sortedL_drop j ks hs
              rw [ST.out] at this
              exact absurd (of_decide_eq_true this) hr0
          clear ST HN
          subst hE
          go_wp2
          go_ret
          exact ⟨rfl, hbel3⟩
      · obtain rfl : i = 0 := by omega
        have hE : ANS = true := by rw [← HN.out]; exact hq.out
        clear hq HN
        subst hE
        go_wp2
        go_ret
        exact ⟨rfl, hbel⟩
end Go.Proofs.YtlhogjigdmpokaaGreatDoor.tmc
namespace Go.Proofs.YtlhogjigdmpokaaGreatDoor.tmc
open Go.RowKit Go.Proofs.YtlhogjigdmpokaaGreatDoor.tlvc
set_option linter.unusedVariables false
def Le (a b : Tm) : Prop := ordT a b ≤ 0
theorem le_trans_ {a b c : Tm} (h : Le a b) (k : Le b c) : Le a c := (ordT_tri a b c h k).1
theorem le_refl_ (a : Tm) : Le a a := by unfold Le; rw [ordT_refl]; exact Int.le_refl _
theorem le_of_not {a b : Tm} (h : 0 < ordT a b) : Le b a := by unfold Le; rw [ordT_swap a b]; omega
theorem le_anti {a b : Tm} (h : Le a b) (k : Le b a) : a = b := ordT_zero (by unfold Le at h k; rw [ordT_swap a b] at k; omega)
theorem sorted_pair : ∀ {l : List Tm}, sortedL l = true ↔ l.Pairwise Le
  | [] => by simp [sortedL]
  | [a] => by simp [sortedL]
  | a :: b :: r => by
    rw [sortedL_two, Bool.and_eq_true, sorted_pair (l := b :: r), List.pairwise_cons (a := a)]
    constructor
    · rintro ⟨h1, h2⟩
      have h1 : ordT a b ≤ 0 := of_decide_eq_true h1
      refine ⟨fun c hc => ?_, h2⟩
      rcases List.mem_cons.1 hc with rfl | hc
      · exact h1
      · exact le_trans_ h1 ((List.pairwise_cons.1 h2).1 c hc)
    · rintro ⟨h1, h2⟩
      exact ⟨decide_eq_true (h1 b List.mem_cons_self), h2⟩
theorem sort_one {l l' : List Tm} (h : l.Pairwise Le) (h' : l'.Pairwise Le) (p : l.Perm l') : l = l' :=
  List.Perm.eq_of_pairwise (fun a b _ _ => le_anti) h h' p
/-- The place of a term among others: behind those that don't come behind it. -/
def atF (l : List Tm) (x : Tm) : Nat → Nat
  | 0 => 0
  | n + 1 => if 0 < ordT (l.getD n default) x then atF l x n else n + 1
theorem atF_le (l : List Tm) (x : Tm) : ∀ n, atF l x n ≤ n
  | 0 => Nat.le_refl _
  | n + 1 => by
    unfold atF
    split
    · exact Nat.le_succ_of_le (atF_le l x n)
    · exact Nat.le_refl _
theorem atF_spec (l : List Tm) (x : Tm) : ∀ n, (∀ j, atF l x n ≤ j → j < n → 0 < ordT (l.getD j default) x) ∧ (0 < atF l x n → ordT (l.getD (atF l x n - 1) default) x ≤ 0)
  | 0 => ⟨fun j _ h => absurd h (by omega), fun h => by unfold atF at h; omega⟩
  | n + 1 => by
    obtain ⟨i1, i2⟩ := atF_spec l x n
    unfold atF
    split
    · rename_i h
      refine ⟨fun j h1 h2 => ?_, i2⟩
      rcases Nat.lt_or_ge j n with h3 | h3
      · exact i1 j h1 h3
      · obtain rfl : j = n := by omega
        exact h
    · rename_i h
      refine ⟨fun j h1 h2 => by omega, fun _ => ?_⟩
      rw [Nat.add_sub_cancel]; omega
def putF (l : List Tm) (x : Tm) : List Tm := l.take (atF l x l.length) ++ x :: l.drop (atF l x l.length)
theorem putF_perm (l : List Tm) (x : Tm) : (putF l x).Perm (x :: l) := by
  unfold putF
  refine List.perm_middle.trans ?_
  rw [List.take_append_drop]
theorem putF_len (l : List Tm) (x : Tm) : (putF l x).length = l.length + 1 := by rw [(putF_perm l x).length_eq]; rfl
/-- What stands ahead of it, and what behind. -/
theorem putF_ahead {l : List Tm} (h : l.Pairwise Le) (x : Tm) : (∀ a ∈ l.take (atF l x l.length), Le a x) ∧ (∀ b ∈ l.drop (atF l x l.length), 0 < ordT b x) := by
  obtain ⟨s1, s2⟩ := atF_spec l x l.length
  have hle := atF_le l x l.length
  obtain ⟨p, hp⟩ : ∃ p, atF l x l.length = p := ⟨_, rfl⟩
  rw [hp] at s1 s2 hle ⊢
  constructor
  · intro a ha
    obtain ⟨i, hi, rfl⟩ := List.getElem_of_mem ha
    rw [List.length_take] at hi
    rw [List.getElem_take]
    have h2 : Le (l[p - 1]'(by omega)) x := by
      have := s2 (by omega)
      rwa [List.getD_eq_getElem?_getD, List.getElem?_eq_getElem (by omega), Option.getD_some] at this
    by_cases hip : i = p - 1
    · subst hip; exact h2
    · exact le_trans_ (List.pairwise_iff_getElem.1 h i (p - 1) (by omega) (by omega) (by omega)) h2
  · intro b hb
    obtain ⟨i, hi, rfl⟩ := List.getElem_of_mem hb
    rw [List.length_drop] at hi
    rw [List.getElem_drop]
    have := s1 (p + i) (by omega) (by omega)
    rwa [List.getD_eq_getElem?_getD, List.getElem?_eq_getElem (by omega), Option.getD_some] at this
theorem putF_sorted {l : List Tm} (h : l.Pairwise Le) (x : Tm) : (putF l x).Pairwise Le := by
  obtain ⟨h1, h2⟩ := putF_ahead h x
  unfold putF
  obtain ⟨p, hp⟩ : ∃ p, atF l x l.length = p := ⟨_, rfl⟩
  rw [hp] at h1 h2 ⊢
  rw [List.pairwise_append]
  refine ⟨h.sublist (List.take_sublist _ _), List.pairwise_cons.2 ⟨fun b hb => le_of_not (h2 b hb), h.sublist (List.drop_sublist _ _)⟩, fun a ha b hb => ?_⟩
  rcases List.mem_cons.1 hb with rfl | hb
  · exact h1 a ha
  · exact le_trans_ (h1 a ha) (le_of_not (h2 b hb))
/-- Terms in order. -/
def sortI (l : List Tm) : List Tm := l.foldl putF []
theorem sortI_snoc (l : List Tm) (x : Tm) : sortI (l ++ [x]) = putF (sortI l) x := by unfold sortI; rw [List.foldl_append]; rfl
theorem fold_perm : ∀ (l a : List Tm), (l.foldl putF a).Perm (a ++ l)
  | [], a => by simp
  | x :: l, a => by
    refine (fold_perm l (putF a x)).trans ?_
    refine ((putF_perm a x).append_right l).trans ?_
    exact List.perm_middle.symm
theorem sortI_perm (l : List Tm) : (sortI l).Perm l := fold_perm l []
theorem fold_sorted : ∀ (l a : List Tm), a.Pairwise Le → (l.foldl putF a).Pairwise Le
  | [], a, h => h
  | x :: l, a, h => fold_sorted l _ (putF_sorted h x)
theorem sortI_sorted (l : List Tm) : (sortI l).Pairwise Le := fold_sorted l [] List.Pairwise.nil
theorem sortI_of {l : List Tm} (h : l.Pairwise Le) : sortI l = l := sort_one (sortI_sorted l) h (sortI_perm l)
theorem sortI_uniq {l l' : List Tm} (h : l'.Pairwise Le) (p : l'.Perm l) : l' = sortI l := sort_one h (sortI_sorted l) (p.trans (sortI_perm l).symm)
theorem sortI_len (l : List Tm) : (sortI l).length = l.length := (sortI_perm l).length_eq
/-! ### A term whose powers are in order -/
mutual
def normF : Tm → Tm
  | .mk o m d ks => .mk o m d (if o = 7 then sortI (normL ks) else normL ks)
def normL : List Tm → List Tm
  | [] => []
  | k :: ks => normF k :: normL ks
end
theorem normL_map : ∀ ks : List Tm, normL ks = ks.map normF
  | [] => by unfold normL; rfl
  | k :: ks => by unfold normL; rw [normL_map ks]; rfl
theorem normF_mk (o m : Int) (d : List Int) (ks : List Tm) : normF (.mk o m d ks) = .mk o m d (if o = 7 then sortI (ks.map normF) else ks.map normF) := by unfold normF; rw [normL_map]
theorem map_same {f : Tm → Tm} : ∀ {l : List Tm}, (∀ k ∈ l, f k = k) → l.map f = l
  | [], _ => rfl
  | a :: l, h => by rw [List.map_cons, h a List.mem_cons_self, map_same fun k hk => h k (List.mem_cons_of_mem _ hk)]
theorem right_mk {o m : Int} {d : List Int} {ks : List Tm} {outer : Nat} : rightF (.mk o m d ks) outer = true ↔ outer < 16 ∧ aloneB o m d.length ks.length = true ∧ (∀ k ∈ ks, rightF k (outer + 1) = true) ∧ ks.Pairwise Le := by
  have e : rightF (.mk o m d ks) outer = (decide (outer < 16) && aloneB o m d.length ks.length && rightL ks (outer + 1) && sortedL ks) := by conv => lhs; unfold rightF
  rw [e, rightL_all, Bool.and_eq_true, Bool.and_eq_true, Bool.and_eq_true, List.all_eq_true, sorted_pair]
  constructor
  · rintro ⟨⟨⟨h1, h2⟩, h3⟩, h4⟩; exact ⟨of_decide_eq_true h1, h2, h3, h4⟩
  · rintro ⟨h1, h2, h3, h4⟩; exact ⟨⟨⟨decide_eq_true h1, h2⟩, h3⟩, h4⟩
theorem normF_right : ∀ (N : Nat) (n : Tm), szT n ≤ N → ∀ outer, rightF n outer = true → normF n = n
  | 0, .mk _ _ _ ks, h, _, _ => by unfold szT at h; omega
  | N + 1, .mk o m d ks, h, outer, hr => by
    obtain ⟨_, _, h3, h4⟩ := right_mk.1 hr
    unfold szT at h
    have hm : ks.map normF = ks := map_same fun k hk => normF_right N k (by have := szTs_mem hk; omega) _ (h3 k hk)
    rw [normF_mk, hm, sortI_of h4]
    split <;> rfl
theorem norm_right {n : Tm} {outer : Nat} (h : rightF n outer = true) : normF n = n := normF_right _ n (Nat.le_refl _) outer h
theorem normF_idem : ∀ (N : Nat) (n : Tm), szT n ≤ N → normF (normF n) = normF n
  | 0, .mk _ _ _ ks, h => by unfold szT at h; omega
  | N + 1, .mk o m d ks, h => by
    unfold szT at h
    have ih : ∀ k ∈ ks.map normF, normF k = k := fun k hk => by
      obtain ⟨k', hk', rfl⟩ := List.mem_map.1 hk
      exact normF_idem N k' (by have := szTs_mem hk'; omega)
    rw [normF_mk, normF_mk]
    by_cases h7 : o = 7
    · rw [if_pos h7, if_pos h7, map_same fun k hk => ih k ((sortI_perm _).mem_iff.1 hk), sortI_of (sortI_sorted _)]
    · rw [if_neg h7, if_neg h7, map_same ih]
theorem norm_idem (n : Tm) : normF (normF n) = normF n := normF_idem _ n (Nat.le_refl _)
theorem szTs_perm {l l' : List Tm} (h : l.Perm l') : szTs l = szTs l' := by
  induction h with
  | nil => rfl
  | cons x _ ih => unfold szTs; rw [ih]
  | swap x y l => unfold szTs; unfold szTs; omega
  | trans _ _ h1 h2 => rw [h1, h2]
theorem szTs_map {f : Tm → Tm} : ∀ {l : List Tm}, (∀ k ∈ l, szT (f k) = szT k) → szTs (l.map f) = szTs l
  | [], _ => rfl
  | a :: l, h => by rw [List.map_cons]; unfold szTs; rw [h a List.mem_cons_self, szTs_map fun k hk => h k (List.mem_cons_of_mem _ hk)]
theorem normF_sz : ∀ (N : Nat) (n : Tm), szT n ≤ N → szT (normF n) = szT n
  | 0, .mk _ _ _ ks, h => by unfold szT at h; omega
  | N + 1, .mk o m d ks, h => by
    unfold szT at h
    have ih : szTs (ks.map normF) = szTs ks := szTs_map fun k hk => normF_sz N k (by have := szTs_mem hk; omega)
    rw [normF_mk]
    by_cases h7 : o = 7
    · rw [if_pos h7]; unfold szT; rw [szTs_perm (sortI_perm _), ih]
    · rw [if_neg h7]; unfold szT; rw [ih]
theorem norm_sz (n : Tm) : szT (normF n) = szT n := normF_sz _ n (Nat.le_refl _)
/-! ### As much data as memory bears -/
mutual
def fitD : Tm → Prop
  | .mk _ _ d ks => d.length ≤ 140737488351232 ∧ fitDs ks
def fitDs : List Tm → Prop
  | [] => True
  | k :: ks => fitD k ∧ fitDs ks
end
theorem fitDs_all : ∀ {ks : List Tm}, fitDs ks ↔ ∀ k ∈ ks, fitD k
  | [] => by unfold fitDs; simp
  | k :: ks => by unfold fitDs; rw [fitDs_all (ks := ks)]; simp
theorem alone_data {o m : Int} {d k : Nat} (h : aloneB o m d k = true) : d ≤ 8192 ∧ k ≤ 4 := by
  unfold aloneB at h
  split at h
  · have := of_decide_eq_true h; omega
  · split at h
    · have := of_decide_eq_true h; omega
    · split at h
      · have := of_decide_eq_true h; omega
      · split at h
        · have := of_decide_eq_true h; omega
        · split at h
          · have := of_decide_eq_true h; omega
          · cases h
theorem right_fit : ∀ (N : Nat) (n : Tm), szT n ≤ N → ∀ outer, rightF n outer = true → fitD n
  | 0, .mk _ _ _ ks, h, _, _ => by unfold szT at h; omega
  | N + 1, .mk o m d ks, h, outer, hr => by
    obtain ⟨_, h2, h3, _⟩ := right_mk.1 hr
    unfold szT at h
    unfold fitD
    exact ⟨by have := (alone_data h2).1; omega, fitDs_all.2 fun k hk => right_fit N k (by have := szTs_mem hk; omega) _ (h3 k hk)⟩
theorem normF_fit : ∀ (N : Nat) (n : Tm), szT n ≤ N → fitD n → fitD (normF n)
  | 0, .mk _ _ _ ks, h, _ => by unfold szT at h; omega
  | N + 1, .mk o m d ks, h, hf => by
    unfold szT at h
    unfold fitD at hf
    obtain ⟨h1, h2⟩ := hf
    have ih : ∀ k ∈ ks.map normF, fitD k := fun k hk => by
      obtain ⟨k', hk', rfl⟩ := List.mem_map.1 hk
      exact normF_fit N k' (by have := szTs_mem hk'; omega) (fitDs_all.1 h2 k' hk')
    rw [normF_mk]
    unfold fitD
    refine ⟨h1, ?_⟩
    by_cases h7 : o = 7
    · rw [if_pos h7]; exact fitDs_all.2 fun k hk => ih k ((sortI_perm _).mem_iff.1 hk)
    · rw [if_neg h7]; exact fitDs_all.2 ih
/-! ### What lies in a right term -/
theorem right_down : ∀ (N : Nat) (n : Tm), szT n ≤ N → ∀ outer, rightF n (outer + 1) = true → rightF n outer = true
  | 0, .mk _ _ _ ks, h, _, _ => by unfold szT at h; omega
  | N + 1, .mk o m d ks, h, outer, hr => by
    obtain ⟨h1, h2, h3, h4⟩ := right_mk.1 hr
    unfold szT at h
    exact right_mk.2 ⟨by omega, h2, fun k hk => right_down N k (by have := szTs_mem hk; omega) _ (h3 k hk), h4⟩
theorem right_kids {o m : Int} {d : List Int} {ks : List Tm} (h : rightF (.mk o m d ks) 0 = true) {k : Tm} (hk : k ∈ ks) : rightF k 0 = true :=
  right_down _ k (Nat.le_refl _) 0 ((right_mk.1 h).2.2.1 k hk)
/-! ### Powers -/
/-- A power's power, before it is looked at. -/
def pow0 (t x : Tm) : Tm := .mk 7 0 [] (putF t.kids x)
def powF (t x : Tm) : Option Tm := if rightF t 0 = true ∧ rightF x 0 = true ∧ t.op = 7 then (if rightF (pow0 t x) 0 = true then some (pow0 t x) else none) else none
theorem norm_pow {t x : Tm} (ht : rightF t 0 = true) (hx : rightF x 0 = true) : normF (.mk 7 0 [] (t.kids ++ [x])) = pow0 t x := by
  obtain ⟨o, m, d, ks⟩ := t
  obtain ⟨_, _, h3, h4⟩ := right_mk.1 ht
  rw [normF_mk, if_pos rfl]
  unfold pow0
  simp only [Tm.kids]
  rw [map_same (l := ks ++ [x]) fun k hk => by
    rcases List.mem_append.1 hk with hk | hk
    · exact norm_right (h3 k hk)
    · rw [List.mem_singleton] at hk; subst hk; exact norm_right hx, sortI_snoc, sortI_of h4]
theorem pow0_sz (t x : Tm) : szT (pow0 t x) = szT t + szT x := by
  obtain ⟨o, m, d, ks⟩ := t
  show szTs (putF ks x) + 1 = (szTs ks + 1) + szT x
  rw [szTs_perm (putF_perm ks x)]
  show szT x + szTs ks + 1 = _
  omega
theorem put_two (a b : Tm) : putF [a] b = putF [b] a := by
  refine sort_one (putF_sorted (by simp) b) (putF_sorted (by simp) a) ?_
  exact (putF_perm [a] b).trans ((List.Perm.swap a b []).trans (putF_perm [b] a).symm)
/-- The power of nothing. -/
def exp0 : Tm := .mk 7 0 [] []
theorem pow0_one (x : Tm) : pow0 exp0 x = .mk 7 0 [] [x] := rfl
theorem exp0_right : rightF exp0 0 = true := by unfold exp0; rw [right_mk]; exact ⟨by omega, by decide, by simp, List.Pairwise.nil⟩
theorem powF_some {t x p : Tm} (h : powF t x = some p) : rightF t 0 = true ∧ rightF x 0 = true ∧ t.op = 7 ∧ p = pow0 t x ∧ rightF p 0 = true := by
  unfold powF at h
  split at h
  · rename_i h1
    split at h
    · rename_i h2
      cases h
      exact ⟨h1.1, h1.2.1, h1.2.2, rfl, h2⟩
    · cases h
  · cases h
/-- A power of two is the same whichever was first. -/
theorem pow_two {a b p q : Tm} (h1 : powF exp0 a = some p) (h2 : powF exp0 b = some q) : powF p b = powF q a := by
  obtain ⟨_, ha, _, rfl, hp⟩ := powF_some h1
  obtain ⟨_, hb, _, rfl, hq⟩ := powF_some h2
  unfold powF
  rw [if_pos (show rightF (pow0 exp0 a) 0 = true ∧ rightF b 0 = true ∧ (pow0 exp0 a).op = 7 from ⟨hp, hb, rfl⟩), if_pos (show rightF (pow0 exp0 b) 0 = true ∧ rightF a 0 = true ∧ (pow0 exp0 b).op = 7 from ⟨hq, ha, rfl⟩)]
  have e : pow0 (pow0 exp0 a) b = pow0 (pow0 exp0 b) a := by
    rw [pow0_one, pow0_one]
    unfold pow0
    simp only [Tm.kids]
    rw [put_two]
  rw [e]
end Go.Proofs.YtlhogjigdmpokaaGreatDoor.tmc
namespace Go.Proofs.YtlhogjigdmpokaaGreatDoor.tmc
open Go.RowKit Go.Proofs.YtlhogjigdmpokaaGreatDoor.tlvc
set_option linter.unusedVariables false
def Quads (S : Nat → Prop) (w : World) : List Tm → List Value → Prop
  | [], cs => cs = []
  | k :: ks, cs => ∃ c0 c1 c2 c3 r, cs = c0 :: c1 :: c2 :: c3 :: r ∧ TmC S w k c0 c1 c2 c3 ∧ Quads S w ks r
theorem Quads.stays {S : Nat → Prop} {w w' : World} (hs : Stays S w w') : ∀ {ks : List Tm} {cs : List Value}, Quads S w ks cs → Quads S w' ks cs
  | [], _, h => h
  | k :: ks, _, ⟨c0, c1, c2, c3, r, e, hk, hr⟩ => ⟨c0, c1, c2, c3, r, e, TmC.stays hs k c0 c1 c2 c3 hk, Quads.stays hs hr⟩
theorem Quads.mono {S S' : Nat → Prop} {w : World} (hS : ∀ g, S g → S' g) : ∀ {ks : List Tm} {cs : List Value}, Quads S w ks cs → Quads S' w ks cs
  | [], _, h => h
  | k :: ks, _, ⟨c0, c1, c2, c3, r, e, hk, hr⟩ => ⟨c0, c1, c2, c3, r, e, TmC.mono hS k c0 c1 c2 c3 hk, Quads.mono hS hr⟩
theorem Quads.below2 {B S : Nat → Prop} {w w' : World} (hs : Stays B w w') (hS : ∀ g, B g → g < w.heap.size → S g) : ∀ {ks : List Tm} {cs : List Value}, Quads B w ks cs → Quads S w' ks cs
  | [], _, h => h
  | k :: ks, _, ⟨c0, c1, c2, c3, r, e, hk, hr⟩ => ⟨c0, c1, c2, c3, r, e, TmC.below2 hs hk hS, Quads.below2 hs hS hr⟩
theorem Quads.snoc {S : Nat → Prop} {w : World} {n : Tm} {d0 d1 d2 d3 : Value} (hn : TmC S w n d0 d1 d2 d3) : ∀ {ks : List Tm} {cs : List Value}, Quads S w ks cs → Quads S w (ks ++ [n]) (cs ++ [d0, d1, d2, d3])
  | [], cs, h => by
    have h : cs = [] := h
    subst h
    exact ⟨d0, d1, d2, d3, [], rfl, hn, rfl⟩
  | k :: ks, _, ⟨c0, c1, c2, c3, r, e, hk, hr⟩ => ⟨c0, c1, c2, c3, r ++ [d0, d1, d2, d3], by rw [e]; rfl, hk, Quads.snoc hn hr⟩
theorem Quads.app {S : Nat → Prop} {w : World} {ks' : List Tm} {cs' : List Value} (h' : Quads S w ks' cs') : ∀ {ks : List Tm} {cs : List Value}, Quads S w ks cs → Quads S w (ks ++ ks') (cs ++ cs')
  | [], cs, h => by
    have h : cs = [] := h
    subst h
    exact h'
  | k :: ks, _, ⟨c0, c1, c2, c3, r, e, hk, hr⟩ => ⟨c0, c1, c2, c3, r ++ cs', by rw [e]; rfl, hk, Quads.app h' hr⟩
theorem Quads.len {S : Nat → Prop} {w : World} : ∀ {ks : List Tm} {cs : List Value}, Quads S w ks cs → cs.length = ks.length * 4
  | [], _, h => by have h : _ = [] := h; subst h; rfl
  | k :: ks, _, ⟨c0, c1, c2, c3, r, e, hk, hr⟩ => by subst e; have := Quads.len hr; simp; omega
theorem TmC.one {S : Nat → Prop} {w : World} {n : Tm} {c0 c1 c2 c3 : Value} (h : TmC S w n c0 c1 c2 c3) : c0.oneCell' = true ∧ c1.oneCell' = true ∧ c2.oneCell' = true ∧ c3.oneCell' = true := by
  obtain ⟨o, m, A, la, ca, K, lk, ck, rfl, rfl, rfl, rfl⟩ := h.shape
  exact ⟨rfl, rfl, rfl, rfl⟩
theorem Quads.one {S : Nat → Prop} {w : World} : ∀ {ks : List Tm} {cs : List Value}, Quads S w ks cs → ∀ u ∈ cs, u.oneCell' = true
  | [], _, h, u, hu => by have h : _ = [] := h; subst h; simp at hu
  | k :: ks, _, ⟨c0, c1, c2, c3, r, e, hk, hr⟩, u, hu => by
    subst e
    obtain ⟨o0, o1, o2, o3⟩ := hk.one
    simp only [List.mem_cons] at hu
    rcases hu with rfl | rfl | rfl | rfl | hu
    · exact o0
    · exact o1
    · exact o2
    · exact o3
    · exact Quads.one hr u hu
/-- Where these cells lie in memory: the terms lie there. -/
theorem Quads.kids {S : Nat → Prop} {w : World} {g : Nat} : ∀ {ks : List Tm} {cs : List Value} {off : Nat}, Quads S w ks cs → (∀ j u, cs[j]? = some u → w.cell? ⟨g, off + j, none⟩ = some u) → KidsC S w g off ks
  | [], _, _, _, _ => by unfold KidsC; trivial
  | k :: ks, _, off, ⟨c0, c1, c2, c3, r, e, hk, hr⟩, hc => by
    subst e
    unfold KidsC
    refine ⟨⟨c0, c1, c2, c3, hc 0 c0 rfl, hc 1 c1 rfl, hc 2 c2 rfl, hc 3 c3 rfl, hk⟩, Quads.kids hr fun j u hu => ?_⟩
    have := hc (j + 4) u hu
    rwa [show off + (j + 4) = off + 4 + j by omega] at this
/-- And back. -/
theorem Quads.of {S : Nat → Prop} {w : World} {g : Nat} : ∀ {ks : List Tm} {off : Nat}, KidsC S w g off ks → ∃ cs, Quads S w ks cs ∧ ∀ j u, cs[j]? = some u → w.cell? ⟨g, off + j, none⟩ = some u
  | [], off, _ => ⟨[], rfl, fun j u h => by simp at h⟩
  | k :: ks, off, h => by
    unfold KidsC at h
    obtain ⟨⟨c0, c1, c2, c3, h0, h1, h2, h3, hk⟩, hr⟩ := h
    obtain ⟨cs, hq, hc⟩ := Quads.of hr
    refine ⟨c0 :: c1 :: c2 :: c3 :: cs, ⟨c0, c1, c2, c3, cs, rfl, hk, hq⟩, fun j u hu => ?_⟩
    match j, hu with
    | 0, hu => cases hu; exact h0
    | 1, hu => cases hu; exact h1
    | 2, hu => cases hu; exact h2
    | 3, hu => cases hu; exact h3
    | j + 4, hu =>
      have := hc j u hu
      rwa [show off + 4 + j = off + (j + 4) by omega] at this
/-- A term with its cells. -/
structure El (S : Nat → Prop) (w : World) where
  tm : Tm
  c0 : Value
  c1 : Value
  c2 : Value
  c3 : Value
  h : TmC S w tm c0 c1 c2 c3
def El.enc {S : Nat → Prop} {w : World} (x : El S w) : List Value := [x.c0, x.c1, x.c2, x.c3]
theorem nil_tm (B : Nat → Prop) (w : World) : TmC B w (.mk 0 0 [] []) (.int .i64 0) (.int .i64 0) (.slice none 0 0) (.slice none 0 0) := by
  unfold TmC
  exact ⟨rfl, by unfold I64; omega, rfl, by unfold I64; omega, ⟨none, 0, 0, rfl, Nat.le_refl _, Nat.zero_le _, Bys.nil_ _ _, fun h => absurd h (by omega)⟩, none, 0, rfl, Nat.le_refl _, Nat.zero_le _, fun h => absurd h (by simp)⟩
instance (S : Nat → Prop) (w : World) : Inhabited (El S w) := ⟨⟨.mk 0 0 [] [], .int .i64 0, .int .i64 0, .slice none 0 0, .slice none 0 0, nil_tm S w⟩⟩
theorem Quads.els {S : Nat → Prop} {w : World} : ∀ {ks : List Tm} {cs : List Value}, Quads S w ks cs → ∃ d : List (El S w), d.map El.tm = ks ∧ d.flatMap El.enc = cs
  | [], _, h => ⟨[], rfl, h.symm⟩
  | k :: ks, _, ⟨c0, c1, c2, c3, r, e, hk, hr⟩ => by
    obtain ⟨d, h1, h2⟩ := Quads.els hr
    subst e
    exact ⟨⟨k, c0, c1, c2, c3, hk⟩ :: d, by rw [List.map_cons, h1], by rw [List.flatMap_cons, h2]; rfl⟩
theorem els_quads {S : Nat → Prop} {w : World} : ∀ d : List (El S w), Quads S w (d.map El.tm) (d.flatMap El.enc)
  | [] => rfl
  | ⟨k, c0, c1, c2, c3, hk⟩ :: d => ⟨c0, c1, c2, c3, d.flatMap El.enc, rfl, hk, els_quads d⟩
theorem els_at {S : Nat → Prop} {w : World} : ∀ (d : List (El S w)) (t : Nat), t < d.length * 4 → (d.flatMap El.enc)[t]? = some ((El.enc (d.getD (t / 4) default))[t % 4]!)
  | [], t, h => by simp at h
  | x :: d, t, h => by
    rw [List.flatMap_cons]
    by_cases h4 : t < 4
    · rw [List.getElem?_append_left (by simpa [El.enc] using h4)]
      have e1 : t / 4 = 0 := by omega
      have e2 : t % 4 = t := by omega
      rw [e1, e2]
      match t, h4 with
      | 0, _ => rfl
      | 1, _ => rfl
      | 2, _ => rfl
      | 3, _ => rfl
    · have hl : (El.enc x).length = 4 := rfl
      rw [List.getElem?_append_right (by omega), hl, els_at d (t - 4) (by simp at h; omega)]
      have e1 : t / 4 = (t - 4) / 4 + 1 := by omega
      have e2 : t % 4 = (t - 4) % 4 := by omega
      rw [e1, e2]
      rfl
theorem els_len {S : Nat → Prop} {w : World} : ∀ d : List (El S w), (d.flatMap El.enc).length = d.length * 4
  | [] => rfl
  | x :: d => by
    rw [List.flatMap_cons, List.length_append, els_len d]
    have : (El.enc x).length = 4 := rfl
    simp; omega
end Go.Proofs.YtlhogjigdmpokaaGreatDoor.tmc
namespace Go.Proofs.YtlhogjigdmpokaaGreatDoor.tmc
open Go.RowKit Go.Proofs.YtlhogjigdmpokaaGreatDoor.tlvc
set_option linter.unusedVariables false
theorem Tryz.infoU8 : (Tryz.prog.info? 5).map (fun i => (i.zero, i.size, i.bytes)) = some (some (.int .u8 0), 1, 1) := by kernel_rfl
theorem Tryz.infoTerm : (Tryz.prog.info? 43).map (fun i => (i.zero, i.size, i.bytes)) = some (some (.agg #[.int .i64 0, .int .i64 0, .slice none 0 0, .slice none 0 0]), 4, 64) := by kernel_rfl
/-- append of bytes to a row of the call's own, as many as memory bears. -/
theorem app_long (w : World) (base : Nat) (v : Value) (n : Nat) (cs : List Value) (hown : w.ownsRow base 5 1 v n cs) (A : Option Addr) (m c : Nat) (ys : List Int) (hb : Bys w A m ys) (hn : n + m ≤ 140737488355328) (hbase : base ≤ w.heap.size) :
    ∃ v' w', (Builtin.append_ #[24, 24] 24 #[v, .slice A m c]).run Tryz.prog w = .ok v' w' ∧ w'.ownsRow base 5 1 v' (n + m) (cs ++ vals ys) ∧ w.grownBy w' v.ownBlock ∧ (v'.ownBlock = v.ownBlock ∨ ∃ g', v'.ownBlock = some g' ∧ w.heap.size ≤ g') := by
  obtain ⟨i0, hi, hz0, hz1, hz2⟩ := info_parts Tryz.infoU8
  rcases A with _ | ad
  · have hm : m = 0 := by
      rcases Nat.eq_zero_or_pos m with h0 | h0
      · exact h0
      · obtain ⟨b, off, h, _⟩ := hb.2.2 h0
        cases h
    subst hm
    have hn : ys = [] := List.eq_nil_of_length_eq_zero hb.1
    subst hn
    exact ⟨v, w, run_app_nil w base 24 24 5 i0 Tryz.underlying24 hi v n cs hown c, by simpa [vals] using hown, World.grownBy.refl w _, .inl rfl⟩
  · obtain ⟨v', w', h1, h2, h3, _, h5⟩ := app_gen (P := Tryz.prog) w base 24 24 5 i0 (.int .u8 0) 1 1 Tryz.underlying24 hi hz0 hz1 hz2 rfl (by decide) v n cs hown ad m c (vals ys) (by rw [vals_length, hb.1]; omega)
      (fun j u hu => by
        have hj : j < ys.length := by
          have := (List.getElem?_eq_some_iff.1 hu).1
          rwa [vals_length] at this
        obtain ⟨b, off, h, _, hc⟩ := hb.2.2 (by have := hb.1; omega)
        cases h
        rw [Addr.add_lit, hc j (by have := hb.1; omega), ← hu]
        simp [vals, List.getD_eq_getElem?_getD, List.getElem?_eq_getElem hj]) (vals_one ys) (by unfold maxLen; omega) (by omega) hbase
    exact ⟨v', w', h1, h2, h3, h5⟩
/-- append of terms' cells to a row of the call's own. -/
theorem app_terms (w : World) (base : Nat) (v : Value) (n : Nat) (cs : List Value) (hown : w.ownsRow base 43 4 v n cs) (a : Addr) (m c : Nat) (news : List Value) (hm : news.length = m * 4) (h1 : ∀ u ∈ news, u.oneCell' = true) (hnews : ∀ j u, news[j]? = some u → w.cell? (a.add j) = some u) (hn : n + m ≤ 1000000) (hbase : base ≤ w.heap.size) :
    ∃ v' w', (Builtin.append_ #[22, 22] 22 #[v, .slice (some a) m c]).run Tryz.prog w = .ok v' w' ∧ w'.ownsRow base 43 4 v' (n + m) (cs ++ news) ∧ w.grownBy w' v.ownBlock ∧ (v'.ownBlock = v.ownBlock ∨ ∃ g', v'.ownBlock = some g' ∧ w.heap.size ≤ g') := by
  obtain ⟨i0, hi, hz0, hz1, hz2⟩ := info_parts Tryz.infoTerm
  obtain ⟨v', w', h1, h2, h3, _, h5⟩ := app_gen (P := Tryz.prog) w base 22 22 43 i0 (.agg #[.int .i64 0, .int .i64 0, .slice none 0 0, .slice none 0 0]) 4 64 Tryz.underlying22 hi hz0 hz1 hz2 rfl (by decide) v n cs hown a m c news hm hnews h1 (by unfold maxLen; omega) (by omega) hbase
  exact ⟨v', w', h1, h2, h3, h5⟩
theorem own4_shape {w : World} {base : Nat} {e : TypeId} {size : Nat} {v : Value} {n : Nat} {xs : List Value} (h : w.ownsRow base e size v n xs) : ∃ A c, v = .slice A n c ∧ n ≤ c ∧ c ≤ maxLen ∧ (0 < n → ∃ g, A = some ⟨g, 0, none⟩ ∧ base ≤ g ∧ g < w.heap.size) := by
  rcases h.2 with ⟨rfl, rfl⟩ | ⟨g, cap, cur, rfl, hg, hh, hn, hc, _⟩
  · exact ⟨none, 0, rfl, Nat.le_refl _, Nat.zero_le _, fun hk => absurd hk (by omega)⟩
  · exact ⟨_, cap, rfl, hn, hc, fun _ => ⟨g, rfl, hg, (Array.getElem?_eq_some_iff.1 hh).1⟩⟩
theorem eql_nil {P : Program} (w : World) (t e : TypeId) (a : Option Addr) (l c : Nat) (h : P.underlying t = some (.slice e)) : (binOp .eql t (.slice a l c) (.slice none 0 0)).run P w = .ok (.bool a.isNone) w := by
  simp only [binOp]
  simp [run_equal_slice_nil w t e a l c h]
/-- The cells of a slice's data are written to freely. -/
def NF (w : World) (A : Option Addr) (la : Nat) : Prop := 0 < la → ∀ g off sp, A = some ⟨g, off, sp⟩ → ∀ j, w.frozen? ⟨g, j, none⟩ = false
theorem NF.keep {w w' : World} {A : Option Addr} {la : Nat} {d : List Int} (h : NF w A la) (hd : Bys w A la d) (hb : 0 < la → ∀ g off sp, A = some ⟨g, off, sp⟩ → g < w.heap.size → w'.heap[g]? = w.heap[g]?) : NF w' A la := fun hl g off sp e j => by
  obtain ⟨b', off', e', hb', _⟩ := hd.2.2 hl
  have e2 := e
  rw [e'] at e2
  cases e2
  have := hb hl _ _ _ e hb'
  have h2 := h hl _ _ _ e j
  unfold World.frozen? at h2 ⊢
  rw [this]
  exact h2
/-- A term's value whose own data are so. -/
def NFv (w : World) (v : Value) : Prop := ∀ c0 c1 A la ca c3, v = .agg #[c0, c1, .slice A la ca, c3] → NF w A la
theorem NFv.mk {w : World} {c0 c1 c3 : Value} {A : Option Addr} {la ca : Nat} (h : NF w A la) : NFv w (.agg #[c0, c1, .slice A la ca, c3]) := fun _ _ _ _ _ _ e => by
  have e := congrArg Array.toList (Value.agg.inj e)
  simp only [List.cons.injEq, Value.slice.injEq] at e
  obtain ⟨_, _, ⟨rfl, rfl, _⟩, _⟩ := e
  exact h
set_option maxRecDepth 100000 in
set_option maxHeartbeats 8000000 in
theorem bclone_nf (A : Option Addr) (n c : Nat) (xs : List Int) (w : World) (hx : Bys w A n xs) (hc : n ≤ c) (hm : c ≤ maxLen) (hf : n ≤ 140737488351232) :
    Calls Tryz.prog 67 #[.slice A n c] w fun e w' => ∃ A' c', e = .returned (.slice A' n c') ∧ Bys w' A' n xs ∧ (n ≤ c' ∧ c' ≤ maxLen) ∧ Below w.heap.size w w' ∧ (∀ g off sp, A' = some ⟨g, off, sp⟩ → w.heap.size ≤ g) ∧ NF w' A' n := by
  obtain ⟨v3, w3, hrun, hown3, hg3, hob3⟩ := app_long (w.alloc (.cells #[] 5)) w.heap.size (.slice (some ⟨w.heap.size, 0, none⟩) 0 0) 0 [] (World.ownsRow_lit w #[] 0 (Nat.le_refl _) (Nat.zero_le _) rfl) A n c xs (hx.alloc _) (by omega) (by simp)
  rw [Nat.zero_add, List.nil_append] at hown3
  obtain ⟨Ao, co, hv3, hlo, hco, hAo⟩ := own_shape hown3
  subst hv3
  have hb3 : Below w.heap.size w w3 := ((Below.refl _ _).alloc (Nat.le_refl _) _).grown hg3 (by simp) fun j hj => by have hj : some w.heap.size = some j := hj; cases hj; exact Nat.le_refl _
  have hbo := Bys.own hown3 hx.2.1
  have hfar : ∀ g off sp, Ao = some ⟨g, off, sp⟩ → w.heap.size ≤ g := fun g off sp e => (hown3.lt g (by rw [e]; rfl)).1
  have hnf : NF w3 Ao n := fun hl g off sp e j => by
    obtain ⟨g', e', _⟩ := hAo 0 hl
    rw [e'] at e hown3
    cases e
    exact hown3.frozenAt j
  have HE := Lib.hid (And.intro hbo (And.intro hb3 (And.intro hfar hnf)))
  have hnil := fun W => eql_nil (P := Tryz.prog) W 24 5 A n c Tryz.underlying24
  rcases A with _ | ad
  · have hn0 : n = 0 := by
      rcases Nat.eq_zero_or_pos n with h0 | h0
      · exact h0
      · obtain ⟨b, off, h, _⟩ := hx.2.2 h0
        cases h
    subst hn0
    have hx0 : xs = [] := List.eq_nil_of_length_eq_zero hx.1
    subst hx0
    clear HE hbo hb3 hfar hown3 hg3 hob3 hrun hnf
    go_enter Tryz.func67, Tryz.ntmps67
    go_wp2
    go_ret
    exact ⟨none, 0, rfl, Bys.nil_ _ _, ⟨Nat.le_refl _, Nat.zero_le _⟩, Below.refl _ _, (fun g off sp e => by cases e), fun hl => absurd hl (by omega)⟩
  · clear hbo hb3 hfar hown3 hg3 hob3 hx hnf
    go_enter Tryz.func67, Tryz.ntmps67
    go_wp2_with (at_builtin; refine wpl_append rfl (.tmp 5) (.tmp 6) 24 rfl _ _ _ rfl rfl hrun ?_)
    go_ret
    exact ⟨Ao, co, rfl, HE.out.1, ⟨hlo, hco⟩, HE.out.2.1, HE.out.2.2.1, HE.out.2.2.2⟩
theorem bclone_any (A : Option Addr) (n c : Nat) (xs : List Int) (w : World) (hx : Bys w A n xs) (hc : n ≤ c) (hm : c ≤ maxLen) (hf : n ≤ 140737488351232) :
    Calls Tryz.prog 67 #[.slice A n c] w fun e w' => ∃ A' c', e = .returned (.slice A' n c') ∧ Bys w' A' n xs ∧ (n ≤ c' ∧ c' ≤ maxLen) ∧ Below w.heap.size w w' ∧ ∀ g off sp, A' = some ⟨g, off, sp⟩ → w.heap.size ≤ g :=
  (bclone_nf A n c xs w hx hc hm hf).mono fun e w' ⟨A', c', h1, h2, h3, h4, h5, _⟩ => ⟨A', c', h1, h2, h3, h4, h5⟩
set_option maxRecDepth 100000 in
set_option maxHeartbeats 8000000 in
theorem sclone_any (cs : List Value) (A : Option Addr) (n c : Nat) (w : World) (hl : cs.length = n * 4) (h1 : ∀ u ∈ cs, u.oneCell' = true) (hA : 0 < n → ∃ g off, A = some ⟨g, off, none⟩ ∧ g < w.heap.size ∧ ∀ j u, cs[j]? = some u → w.cell? ⟨g, off + j, none⟩ = some u) (hc : n ≤ c) (hm : c ≤ maxLen) (hf : n ≤ 100000) :
    Calls Tryz.prog 68 #[.slice A n c] w fun e w' => ∃ A' c', e = .returned (.slice A' n c') ∧ w'.ownsRow w.heap.size 43 4 (.slice A' n c') n cs ∧ Below w.heap.size w w' := by
  have hnil := fun W => eql_nil (P := Tryz.prog) W 22 43 A n c Tryz.underlying22
  have hlit := World.ownsRow_lit (base := w.heap.size) (e := 43) (size := 4) w #[] 0 (Nat.le_refl _) (Nat.zero_le _) rfl
  rcases A with _ | ad
  · have h0 : n = 0 := by
      rcases Nat.eq_zero_or_pos n with h0 | h0
      · exact h0
      · obtain ⟨_, _, h, _⟩ := hA h0; cases h
    subst h0
    have hk0 : cs = [] := List.eq_nil_of_length_eq_zero (by omega)
    subst hk0
    clear hlit
    go_enter Tryz.func68, Tryz.ntmps68
    go_wp2
    go_ret
    exact ⟨none, 0, rfl, World.ownsRow_nil _ _ _ _, Below.refl _ _⟩
  · have hbn : Below w.heap.size w (w.alloc (.cells #[] 43)) := below_new _ _
    obtain ⟨v3, w3, hrun, hown3, hg3, _⟩ := app_terms (w.alloc (.cells #[] 43)) w.heap.size (.slice (some ⟨w.heap.size, 0, none⟩) 0 0) 0 [] hlit ad n c cs hl h1 (fun j u hu => by
      have hj := (List.getElem?_eq_some_iff.1 hu).1
      obtain ⟨g, off, e, hg, hcs⟩ := hA (by omega)
      cases e
      rw [Addr.add_lit]
      exact (hbn.cell (p := ⟨g, off + j, none⟩) hg).trans (hcs j u hu)) (by omega) (by simp)
    rw [Nat.zero_add, List.nil_append] at hown3
    have hb3 : Below w.heap.size w w3 := ((Below.refl _ _).alloc (Nat.le_refl _) _).grown hg3 (by simp) fun j hj => by have hj : some w.heap.size = some j := hj; cases hj; exact Nat.le_refl _
    obtain ⟨A', c', hv3, _⟩ := own4_shape hown3
    subst hv3
    have HE := Lib.hid (And.intro hown3 hb3)
    clear hown3 hb3 hg3 hlit hbn hA hl h1
    go_enter Tryz.func68, Tryz.ntmps68
    go_wp2_with (at_builtin; refine wpl_append rfl (.tmp 5) (.tmp 6) 22 rfl _ _ _ rfl rfl hrun ?_)
    go_ret
    exact ⟨A', c', rfl, HE.out.1, HE.out.2⟩
end Go.Proofs.YtlhogjigdmpokaaGreatDoor.tmc
namespace Go.Proofs.YtlhogjigdmpokaaGreatDoor.tmc
open Go.RowKit Go.Proofs.YtlhogjigdmpokaaGreatDoor.tlvc
set_option linter.unusedVariables false
theorem set_heap (w : World) (g i : Nat) (v : Value) (cs : Array Value) (T : TypeId) (fr : Nat × Nat) (h : w.heap[g]? = some (.cells cs T fr)) : (w.setCell ⟨g, i, none⟩ v).heap[g]? = some (.cells (cs.setIfInBounds i v) T fr) := by
  simp [World.setCell, Array.getElem?_modify, h]
theorem set_heap_other (w : World) (g i k : Nat) (v : Value) (h : k ≠ g) : (w.setCell ⟨g, i, none⟩ v).heap[k]? = w.heap[k]? := by
  simp [World.setCell, Array.getElem?_modify, h.symm]
theorem set_size (w : World) (a : Addr) (v : Value) : (w.setCell a v).heap.size = w.heap.size := by simp [World.setCell]
theorem cell_same {w w' : World} {p : Addr} (h : w'.heap[p.block]? = w.heap[p.block]?) : w'.cell? p = w.cell? p := by unfold World.cell?; rw [h]
/-- Four cells of a block, one behind the other. -/
def set4 (W : World) (g b : Nat) (y0 y1 y2 y3 : Value) : World := (((W.setCell ⟨g, b, none⟩ y0).setCell ⟨g, b + 1, none⟩ y1).setCell ⟨g, b + 2, none⟩ y2).setCell ⟨g, b + 3, none⟩ y3
theorem set4_size (W : World) (g b : Nat) (y0 y1 y2 y3 : Value) : (set4 W g b y0 y1 y2 y3).heap.size = W.heap.size := by unfold set4; rw [set_size, set_size, set_size, set_size]
theorem set4_other (W : World) (g b k : Nat) (y0 y1 y2 y3 : Value) (h : k ≠ g) : (set4 W g b y0 y1 y2 y3).heap[k]? = W.heap[k]? := by
  unfold set4; rw [set_heap_other _ _ _ _ _ h, set_heap_other _ _ _ _ _ h, set_heap_other _ _ _ _ _ h, set_heap_other _ _ _ _ _ h]
theorem set4_below (W : World) (B g b : Nat) (y0 y1 y2 y3 : Value) (hB : B ≤ g) : Below B W (set4 W g b y0 y1 y2 y3) :=
  ((((Below.refl B W).setCell (show B ≤ (⟨g, b, none⟩ : Addr).block from hB) y0).setCell (show B ≤ (⟨g, b + 1, none⟩ : Addr).block from hB) y1).setCell (show B ≤ (⟨g, b + 2, none⟩ : Addr).block from hB) y2).setCell (show B ≤ (⟨g, b + 3, none⟩ : Addr).block from hB) y3
theorem set4_box {W : World} {g : Nat} {x0 x1 x2 x3 : Value} {T : TypeId} {fr : Nat × Nat} (h : W.heap[g]? = some (.cells #[x0, x1, x2, x3] T fr)) (y0 y1 y2 y3 : Value) : (set4 W g 0 y0 y1 y2 y3).heap[g]? = some (.cells #[y0, y1, y2, y3] T fr) := by
  unfold set4
  exact set_heap _ _ 3 y3 _ _ _ (set_heap _ _ 2 y2 _ _ _ (set_heap _ _ 1 y1 _ _ _ (set_heap _ _ 0 y0 _ _ _ h)))
theorem set4_grown (W : World) (g b : Nat) (y0 y1 y2 y3 : Value) : W.grownBy (set4 W g b y0 y1 y2 y3) (some g) :=
  ⟨rfl, rfl, rfl, by rw [set4_size]; exact Nat.le_refl _, fun k _ hk => set4_other W g b k y0 y1 y2 y3 (fun e => hk (by rw [e]))⟩
theorem set4_list (a : List Value) (c0 c1 c2 c3 y0 y1 y2 y3 : Value) (r : List Value) : ((((a ++ c0 :: c1 :: c2 :: c3 :: r).set a.length y0).set (a.length + 1) y1).set (a.length + 2) y2).set (a.length + 3) y3 = (a ++ [y0, y1, y2, y3]) ++ r := by
  rw [List.set_append_right _ _ (Nat.le_refl _), List.set_append_right _ _ (by omega), List.set_append_right _ _ (by omega), List.set_append_right _ _ (by omega)]
  simp
theorem set4_own {W : World} {base : Nat} {e : TypeId} {g n c : Nat} {a r : List Value} {c0 c1 c2 c3 : Value} (h : W.ownsRow base e 4 (.slice (some ⟨g, 0, none⟩) n c) n (a ++ c0 :: c1 :: c2 :: c3 :: r)) (y0 y1 y2 y3 : Value) :
    (set4 W g a.length y0 y1 y2 y3).ownsRow base e 4 (.slice (some ⟨g, 0, none⟩) n c) n ((a ++ [y0, y1, y2, y3]) ++ r) := by
  have h1 := (h.stored a.length y0).1
  have h2 := (h1.stored (a.length + 1) y1).1
  have h3 := (h2.stored (a.length + 2) y2).1
  have h4 := (h3.stored (a.length + 3) y3).1
  rw [set4_list] at h4
  exact h4
/-- The blocks that are the call's own, the list of kids aside. -/
def Fr (w : World) (K : Option Addr) (g : Nat) : Prop := w.heap.size + 2 ≤ g ∧ some g ≠ (Value.slice K 0 0).ownBlock
theorem own_le (K : Option Addr) (n c : Nat) : (Value.slice K n c).ownBlock = (Value.slice K 0 0).ownBlock := by cases K <;> rfl
structure NInv (w : World) (C : Nat → Prop) (o m : Int) (d : List Int) (n : Nat) (A : Option Addr) (la c : Nat) (K : Option Addr) (ck : Nat) (ts us : List Tm) (cs1 cs2 : List Value) (wx : World) : Prop where
  bel : Below w.heap.size w wx
  box : wx.heap[w.heap.size]? = some (.cells #[.int .i64 o, .int .i64 m, .slice A la c, .slice K n ck] 43)
  res : wx.heap[w.heap.size + 1]? = some (.cells #[.int .i64 0, .int .i64 0, .slice none 0 0, .slice none 0 0] 43)
  data : Bys wx A la d
  far : 0 < la → ∀ g off sp, A = some ⟨g, off, sp⟩ → Fr w K g
  row : wx.ownsRow (w.heap.size + 2) 43 4 (.slice K n ck) n (cs1 ++ cs2)
  q1 : Quads (Fr w K) wx ts cs1
  q2 : Quads C w us cs2
  nf : NF wx A la
theorem NInv.own_lt {w : World} {C : Nat → Prop} {o m : Int} {d : List Int} {n la c ck : Nat} {A K : Option Addr} {ts us : List Tm} {cs1 cs2 : List Value} {wx : World} (h : NInv w C o m d n A la c K ck ts us cs1 cs2 wx) {g : Nat} (e : (Value.slice K 0 0).ownBlock = some g) : w.heap.size + 2 ≤ g ∧ g < wx.heap.size := h.row.lt g ((own_le K n ck).trans e)
theorem NInv.size {w : World} {C : Nat → Prop} {o m : Int} {d : List Int} {n la c ck : Nat} {A K : Option Addr} {ts us : List Tm} {cs1 cs2 : List Value} {wx : World} (h : NInv w C o m d n A la c K ck ts us cs1 cs2 wx) : w.heap.size + 2 ≤ wx.heap.size := (Array.getElem?_eq_some_iff.1 h.res).1
theorem NInv.cells {w : World} {C : Nat → Prop} {o m : Int} {d : List Int} {n la c ck : Nat} {A K : Option Addr} {ts us : List Tm} {cs1 cs2 : List Value} {wx : World} (h : NInv w C o m d n A la c K ck ts us cs1 cs2 wx) : wx.cell? ⟨w.heap.size, 0, none⟩ = some (.int .i64 o) ∧ wx.cell? ⟨w.heap.size, 1, none⟩ = some (.int .i64 m) ∧ wx.cell? ⟨w.heap.size, 2, none⟩ = some (.slice A la c) ∧ wx.cell? ⟨w.heap.size, 3, none⟩ = some (.slice K n ck) :=
  ⟨by rw [Lib.cell_of_heap h.box]; rfl, by rw [Lib.cell_of_heap h.box]; rfl, by rw [Lib.cell_of_heap h.box]; rfl, by rw [Lib.cell_of_heap h.box]; rfl⟩
theorem NInv.below {w : World} {C : Nat → Prop} {o m : Int} {d : List Int} {n la c ck : Nat} {A K : Option Addr} {ts us : List Tm} {cs1 cs2 : List Value} {wx wy : World} (h : NInv w C o m d n A la c K ck ts us cs1 cs2 wx) (hb : Below wx.heap.size wx wy) : NInv w C o m d n A la c K ck ts us cs1 cs2 wy :=
  have z := h.size
  ⟨h.bel.trans (hb.mono h.bel.size), (hb.block _ (by omega)).trans h.box, (hb.block _ (by omega)).trans h.res, h.data.below hb, h.far, own_below h.row hb, h.q1.stays (stays_below hb _), h.q2, h.nf.keep h.data fun _ g _ _ _ hl => hb.block g hl⟩
/-- One kid laid into the list. -/
theorem NInv.step {w : World} {C : Nat → Prop} {o m : Int} {d : List Int} {n la c ck g : Nat} {A : Option Addr} {ts us : List Tm} {cs1 r : List Value} {c0 c1 c2 c3 n0 n1 n2 n3 : Value} {x k : Tm} {wx w6 : World} (h : NInv w C o m d n A la c (some ⟨g, 0, none⟩) ck ts (x :: us) cs1 (c0 :: c1 :: c2 :: c3 :: r) wx)
    (hb : Below wx.heap.size wx w6) (hk : TmC (fun b => wx.heap.size ≤ b) w6 k n0 n1 n2 n3) : NInv w C o m d n A la c (some ⟨g, 0, none⟩) ck (ts ++ [k]) us (cs1 ++ [n0, n1, n2, n3]) r (set4 w6 g cs1.length n0 n1 n2 n3) := by
  have h6 := h.below hb
  have hg := h.own_lt (g := g) rfl
  have hz := h.size
  have hz6 := hb.size
  have hst : Stays (Fr w (some ⟨g, 0, none⟩)) w6 (set4 w6 g cs1.length n0 n1 n2 n3) := ⟨by rw [set4_size]; exact Nat.le_refl _, fun p hp _ => cell_same (set4_other _ _ _ _ _ _ _ _ (fun e => hp.2 (by rw [e]; rfl)))⟩
  obtain ⟨_, _, _, _, _, e, _, hr⟩ := h.q2
  cases e
  refine ⟨h6.bel.trans (set4_below _ _ _ _ _ _ _ _ (by omega)), (set4_other _ _ _ _ _ _ _ _ (by omega)).trans h6.box, (set4_other _ _ _ _ _ _ _ _ (by omega)).trans h6.res, bys_stays hst h6.data h.far, h.far, set4_own h6.row n0 n1 n2 n3, ?_, hr, h6.nf.keep h6.data fun hl b off sp e _ => set4_other _ _ _ _ _ _ _ _ (fun e2 => (h.far hl b off sp e).2 (by rw [e2]; rfl))⟩
  refine Quads.snoc (TmC.stays hst _ _ _ _ _ (TmC.mono (fun b hb => ⟨?_, ?_⟩) _ _ _ _ _ hk)) (h6.q1.stays hst)
  · have hb : wx.heap.size ≤ b := hb; omega
  · intro e
    have e : b = g := Option.some.inj e
    have hb : wx.heap.size ≤ b := hb
    omega
/-- The list put in order. -/
theorem NInv.sorted {w : World} {C : Nat → Prop} {o m : Int} {d : List Int} {n la c ck g : Nat} {A : Option Addr} {ts ts' us : List Tm} {cs1 cs' : List Value} {wx w8 : World} (h : NInv w C o m d n A la c (some ⟨g, 0, none⟩) ck ts [] cs1 [] wx)
    (hq : Quads (Fr w (some ⟨g, 0, none⟩)) w8 ts' cs') (hown : w8.ownsRow (w.heap.size + 2) 43 4 (.slice (some ⟨g, 0, none⟩) n ck) n cs') (hgr : wx.grownBy w8 (some g)) : NInv w C o m d n A la c (some ⟨g, 0, none⟩) ck ts' [] cs' [] w8 := by
  have hg := h.own_lt (g := g) rfl
  have hz := h.size
  have ne : ∀ b, b ≠ g → some b ≠ some g := fun b hb e => hb (Option.some.inj e)
  have hst : Stays (Fr w (some ⟨g, 0, none⟩)) wx w8 := ⟨hgr.size, fun p hp hl => cell_same (hgr.block _ hl hp.2)⟩
  exact ⟨h.bel.grown hgr h.bel.size fun j hj => by cases hj; omega, (hgr.block _ (by omega) (ne _ (by omega))).trans h.box, (hgr.block _ (by omega) (ne _ (by omega))).trans h.res, bys_stays hst h.data h.far, h.far, by rw [List.append_nil]; exact hown, hq, rfl, h.nf.keep h.data fun hl b off sp e hb => hgr.block _ hb (h.far hl b off sp e).2⟩
/-- The term, laid where the answer stands. -/
theorem NInv.fin {w : World} {C : Nat → Prop} {o m : Int} {d : List Int} {n la c ck : Nat} {A K : Option Addr} {ts us : List Tm} {cs1 : List Value} {wx : World} (h : NInv w C o m d n A la c K ck ts [] cs1 [] wx) (hn : ts.length = n) (ho : I64 o) (hm : I64 m) (hlc : la ≤ c) (hcm : c ≤ maxLen) :
    Below w.heap.size w (set4 wx (w.heap.size + 1) 0 (.int .i64 o) (.int .i64 m) (.slice A la c) (.slice K n ck)) ∧ TmV (fun b => w.heap.size ≤ b) (set4 wx (w.heap.size + 1) 0 (.int .i64 o) (.int .i64 m) (.slice A la c) (.slice K n ck)) (.mk o m d ts) (.agg #[.int .i64 o, .int .i64 m, .slice A la c, .slice K n ck]) := by
  have hz := h.size
  have hst : Stays (fun b => w.heap.size + 2 ≤ b) wx (set4 wx (w.heap.size + 1) 0 (.int .i64 o) (.int .i64 m) (.slice A la c) (.slice K n ck)) := ⟨by rw [set4_size]; exact Nat.le_refl _, fun p hp _ => cell_same (set4_other _ _ _ _ _ _ _ _ (by have hp : w.heap.size + 2 ≤ p.block := hp; omega))⟩
  refine ⟨h.bel.trans (set4_below _ _ _ _ _ _ _ _ (by omega)), _, _, _, _, rfl, ?_⟩
  have hrow := h.row
  rw [List.append_nil] at hrow
  unfold TmC
  refine ⟨rfl, ho, rfl, hm, ⟨A, la, c, rfl, hlc, hcm, bys_stays hst h.data (fun hl g off sp e => (h.far hl g off sp e).1), fun hl g off sp e => by have := (h.far hl g off sp e).1; show w.heap.size ≤ g; omega⟩, ?_⟩
  subst hn
  obtain ⟨K', ck', e, h1, h2, h3⟩ := own4_shape hrow
  cases e
  refine ⟨K, ck, rfl, h1, h2, fun hpos => ?_⟩
  obtain ⟨g, rfl, hg1, hg2⟩ := h3 hpos
  refine ⟨g, 0, rfl, by rw [set4_size]; exact hg2, by show w.heap.size ≤ g; omega, ?_⟩
  have hq := (h.q1.mono (S' := fun b => w.heap.size + 2 ≤ b) fun b hb => hb.1).stays hst
  refine Quads.kids (hq.mono fun b hb => by have hb : w.heap.size + 2 ≤ b := hb; show w.heap.size ≤ b; omega) fun j u hu => ?_
  rw [hst.2 ⟨g, 0 + j, none⟩ hg1 hg2, Nat.zero_add]
  have hj := (List.getElem?_eq_some_iff.1 hu).1
  rw [hrow.cellAt j (by rw [← hrow.1]; exact hj)]
  exact hu
theorem NInv.fin_nf {w : World} {C : Nat → Prop} {o m : Int} {d : List Int} {n la c ck : Nat} {A K : Option Addr} {ts us : List Tm} {cs1 cs2 : List Value} {wx : World} (h : NInv w C o m d n A la c K ck ts us cs1 cs2 wx) (y0 y1 y2 y3 z0 z1 z3 : Value) : NFv (set4 wx (w.heap.size + 1) 0 y0 y1 y2 y3) (.agg #[z0, z1, .slice A la c, z3]) :=
  NFv.mk (h.nf.keep h.data fun hl b off sp e _ => set4_other _ _ _ _ _ _ _ _ (by have := (h.far hl b off sp e).1; omega))
/-- At the start: both lists are new. -/
theorem NInv.start {w W0 w1 w3 : World} {C : Nat → Prop} {o m : Int} {d : List Int} {ks : List Tm} {n la c ck : Nat} {A K : Option Addr} {x2 x3 : Value} {cs : List Value} (hb0 : Below w.heap.size w W0) (hz0 : W0.heap.size = w.heap.size + 2)
    (p0 : W0.heap[w.heap.size]? = some (.cells #[.int .i64 o, .int .i64 m, x2, x3] 43)) (p1 : W0.heap[w.heap.size + 1]? = some (.cells #[.int .i64 0, .int .i64 0, .slice none 0 0, .slice none 0 0] 43))
    (hb1 : Below W0.heap.size W0 w1) (hby : Bys w1 A la d) (hfar : ∀ g off sp, A = some ⟨g, off, sp⟩ → W0.heap.size ≤ g) (hb3 : Below w1.heap.size (w1.setCell ⟨w.heap.size, 2, none⟩ (.slice A la c)) w3) (hown : w3.ownsRow w1.heap.size 43 4 (.slice K n ck) n cs) (hq : Quads C w ks cs) (hnf : NF w1 A la) :
    NInv w C o m d n A la c K ck [] ks [] cs (w3.setCell ⟨w.heap.size, 3, none⟩ (.slice K n ck)) := by
  have z1 := hb1.size
  have z3 := hb3.size
  rw [set_size] at z3
  have ha : 0 < la → ∀ g off sp, A = some ⟨g, off, sp⟩ → g < w1.heap.size := fun hl g off sp e => by
    obtain ⟨b', off', e', hb', _⟩ := hby.2.2 hl
    rw [e'] at e; cases e; exact hb'
  have k3 : ∀ b, b ≠ w.heap.size → b < w1.heap.size → (w3.setCell ⟨w.heap.size, 3, none⟩ (.slice K n ck)).heap[b]? = w1.heap[b]? := fun b hb hl => by
    rw [set_heap_other _ _ _ _ _ hb, hb3.block b hl, set_heap_other _ _ _ _ _ hb]
  have hst : Stays (fun b => w.heap.size + 2 ≤ b) w1 (w3.setCell ⟨w.heap.size, 3, none⟩ (.slice K n ck)) := ⟨by rw [set_size]; omega, fun p hp hl => cell_same (k3 _ (by have hp : w.heap.size + 2 ≤ p.block := hp; omega) hl)⟩
  have hB : Below w.heap.size w (w3.setCell ⟨w.heap.size, 3, none⟩ (.slice K n ck)) := by
    refine Below.setCell ?_ (show w.heap.size ≤ (⟨w.heap.size, 3, none⟩ : Addr).block from Nat.le_refl _) _
    exact (Below.setCell (hb0.trans (hb1.mono hb0.size)) (show w.heap.size ≤ (⟨w.heap.size, 2, none⟩ : Addr).block from Nat.le_refl _) _).trans (hb3.mono (by omega))
  refine ⟨hB, ?_, ?_, bys_stays hst hby (fun hl g off sp e => by have := hfar g off sp e; show w.heap.size + 2 ≤ g; omega), fun hl g off sp e => ⟨by have := hfar g off sp e; omega, fun e2 => ?_⟩, ?_, rfl, hq, hnf.keep hby fun hl b off sp e hb => k3 b (by have := hfar b off sp e; omega) hb⟩
  · have e1 := set_heap w1 w.heap.size 2 (.slice A la c) _ _ _ ((hb1.block _ (by omega)).trans p0)
    exact set_heap w3 w.heap.size 3 (.slice K n ck) _ _ _ ((hb3.block _ (by omega)).trans e1)
  · exact (k3 _ (by omega) (by omega)).trans ((hb1.block _ (by omega)).trans p1)
  · have h1 := ha hl g off sp e
    have h2 := (hown.lt g ((own_le K n ck).trans e2.symm)).1
    omega
  · rw [List.nil_append]
    have hown2 := own_base hown (show w.heap.size + 2 ≤ w1.heap.size by omega)
    refine ⟨hown2.1, ?_⟩
    rcases hown2.2 with h | ⟨g, cap, cur, e, h1, h2, h3⟩
    · exact .inl h
    · exact .inr ⟨g, cap, cur, e, h1, (set_heap_other _ _ _ _ _ (by omega)).trans h2, h3⟩
end Go.Proofs.YtlhogjigdmpokaaGreatDoor.tmc
namespace Go.Proofs.YtlhogjigdmpokaaGreatDoor.tmc
open Go.RowKit Go.Proofs.YtlhogjigdmpokaaGreatDoor.tlvc
set_option linter.unusedVariables false
def NormsAt (n : Tm) : Prop := ∀ (B : Nat → Prop) (v : Value) (w : World), TmV B w n v →
    Calls Tryz.prog 38 #[v] w fun e w' => ∃ v', e = .returned v' ∧ TmV (fun g => w.heap.size ≤ g) w' (normF n) v' ∧ Below w.heap.size w w'
/-- The same, with data that may be written to. -/
def NormsAtF (n : Tm) : Prop := ∀ (B : Nat → Prop) (v : Value) (w : World), TmV B w n v →
    Calls Tryz.prog 38 #[v] w fun e w' => ∃ v', e = .returned v' ∧ TmV (fun g => w.heap.size ≤ g) w' (normF n) v' ∧ Below w.heap.size w w' ∧ NFv w' v'
theorem NormsAtF.weak {n : Tm} (h : NormsAtF n) : NormsAt n := fun B v w hv => (h B v w hv).mono fun e w' ⟨v', h1, h2, h3, _⟩ => ⟨v', h1, h2, h3⟩
/-- slices.SortFunc by Order, whatever list of the call's own. -/
def SortsT : Prop := ∀ (S : Nat → Prop) (ks : List Tm) (n g cap base : Nat) (cs : List Value) (w : World), ks.length = n → (∀ b, S b → b ≠ g) → w.ownsRow base 43 4 (.slice (some ⟨g, 0, none⟩) n cap) n cs → Quads S w ks cs → n ≤ 100000 →
    Calls Tryz.prog 69 #[.slice (some ⟨g, 0, none⟩) n cap, .func (.func 70) #[] #[]] w fun e w' => e = .returned (.tuple #[]) ∧ ∃ cs', Quads S w' (sortI ks) cs' ∧ w'.ownsRow base 43 4 (.slice (some ⟨g, 0, none⟩) n cap) n cs' ∧ w.grownBy w' (some g)
def SortsNone : Prop := ∀ (A : Option Addr) (cap : Nat) (w : World), Calls Tryz.prog 69 #[.slice A 0 cap, .func (.func 70) #[] #[]] w fun e w' => e = .returned (.tuple #[]) ∧ w' = w
theorem own_resize {w w1 : World} {a : Addr} {x v : Value} {e : TypeId} {size n : Nat} {xs : List Value} (h : w.ownsRow (w1.setCell a x).heap.size e size v n xs) : w.ownsRow w1.heap.size e size v n xs := by rwa [set_size] at h
theorem drop_one {ks : List Tm} {i : Nat} (h : i < ks.length) : ∃ k, ks.drop i = k :: ks.drop (i + 1) ∧ k ∈ ks ∧ (ks.map normF).take (i + 1) = (ks.map normF).take i ++ [normF k] :=
  ⟨ks[i], List.drop_eq_getElem_cons h, List.getElem_mem h, by rw [List.take_succ_eq_append_getElem (by rw [List.length_map]; exact h), List.getElem_map]⟩
theorem drew_below {w w' : World} (h : Below w.drew.heap.size w.drew w') : Below w.heap.size w w' := ((Below.refl w.heap.size w).drew).trans h
/-- What the store of a kid wants. -/
theorem store_facts {w : World} {C : Nat → Prop} {o m : Int} {d : List Int} {n la c ck g i : Nat} {A : Option Addr} {ts us : List Tm} {cs1 r : List Value} {c0 c1 c2 c3 : Value} {x : Tm} {wx w6 : World} (h : NInv w C o m d n A la c (some ⟨g, 0, none⟩) ck ts (x :: us) cs1 (c0 :: c1 :: c2 :: c3 :: r) wx)
    (hb : Below wx.heap.size wx w6) (hl : cs1.length = i * 4) : w6.cell? ⟨g, i * 4, none⟩ = some c0 ∧ w6.cell? ⟨g, i * 4 + 1, none⟩ = some c1 ∧ w6.cell? ⟨g, i * 4 + 2, none⟩ = some c2 ∧ w6.cell? ⟨g, i * 4 + 3, none⟩ = some c3 ∧ w6.frozen? ⟨g, i * 4, none⟩ = false ∧ w6.frozen? ⟨g, i * 4 + 1, none⟩ = false ∧ w6.frozen? ⟨g, i * 4 + 2, none⟩ = false ∧ w6.frozen? ⟨g, i * 4 + 3, none⟩ = false := by
  have h6 := h.below hb
  have hll := h6.row.1
  simp only [List.length_append, List.length_cons, hl] at hll
  have ca : ∀ j, j < 4 → w6.cell? ⟨g, i * 4 + j, none⟩ = [c0, c1, c2, c3][j]? := fun j hj => by
    rw [h6.row.cellAt (i * 4 + j) (by omega), List.getElem?_append_right (by omega), hl, Nat.add_sub_cancel_left]
    match j, hj with
    | 0, _ => rfl
    | 1, _ => rfl
    | 2, _ => rfl
    | 3, _ => rfl
  exact ⟨ca 0 (by omega), ca 1 (by omega), ca 2 (by omega), ca 3 (by omega), h6.row.frozenAt _, h6.row.frozenAt _, h6.row.frozenAt _, h6.row.frozenAt _⟩
theorem after_set {w6 : World} {b1 b2 g : Nat} {x y0 y1 y2 y3 : Value} (h : w6.cell? ⟨b1, 3, none⟩ = some x ∧ w6.cell? ⟨b2, 0, none⟩ = some y0 ∧ w6.cell? ⟨b2, 1, none⟩ = some y1 ∧ w6.cell? ⟨b2, 2, none⟩ = some y2 ∧ w6.cell? ⟨b2, 3, none⟩ = some y3) (b : Nat) (z0 z1 z2 z3 : Value) (h1 : b1 ≠ g) (h2 : b2 ≠ g) :
    ((((w6.setCell ⟨g, b, none⟩ z0).setCell ⟨g, b + 1, none⟩ z1).setCell ⟨g, b + 2, none⟩ z2).setCell ⟨g, b + 3, none⟩ z3).cell? ⟨b1, 3, none⟩ = some x ∧ ((((w6.setCell ⟨g, b, none⟩ z0).setCell ⟨g, b + 1, none⟩ z1).setCell ⟨g, b + 2, none⟩ z2).setCell ⟨g, b + 3, none⟩ z3).cell? ⟨b2, 0, none⟩ = some y0 ∧ ((((w6.setCell ⟨g, b, none⟩ z0).setCell ⟨g, b + 1, none⟩ z1).setCell ⟨g, b + 2, none⟩ z2).setCell ⟨g, b + 3, none⟩ z3).cell? ⟨b2, 1, none⟩ = some y1 ∧ ((((w6.setCell ⟨g, b, none⟩ z0).setCell ⟨g, b + 1, none⟩ z1).setCell ⟨g, b + 2, none⟩ z2).setCell ⟨g, b + 3, none⟩ z3).cell? ⟨b2, 2, none⟩ = some y2 ∧ ((((w6.setCell ⟨g, b, none⟩ z0).setCell ⟨g, b + 1, none⟩ z1).setCell ⟨g, b + 2, none⟩ z2).setCell ⟨g, b + 3, none⟩ z3).cell? ⟨b2, 3, none⟩ = some y3 := by
  have k1 := fun j => cell_same (p := ⟨b1, j, none⟩) (set4_other w6 g b b1 z0 z1 z2 z3 h1)
  have k2 := fun j => cell_same (p := ⟨b2, j, none⟩) (set4_other w6 g b b2 z0 z1 z2 z3 h2)
  exact ⟨(k1 3).trans h.1, (k2 0).trans h.2.1, (k2 1).trans h.2.2.1, (k2 2).trans h.2.2.2.1, (k2 3).trans h.2.2.2.2⟩
theorem len_szTs : ∀ ks : List Tm, ks.length ≤ szTs ks
  | [] => by simp
  | k :: ks => by
    have := len_szTs ks
    obtain ⟨_, _, _, l⟩ := k
    unfold szTs szT
    simp only [List.length_cons]
    omega
/-- What the end wants. -/
theorem fin_facts {w : World} {C : Nat → Prop} {o m : Int} {d : List Int} {n la c ck : Nat} {A K : Option Addr} {ts us : List Tm} {cs1 cs2 : List Value} {wx : World} (h : NInv w C o m d n A la c K ck ts us cs1 cs2 wx) :
    wx.cell? ⟨w.heap.size, 0, none⟩ = some (.int .i64 o) ∧ wx.cell? ⟨w.heap.size, 1, none⟩ = some (.int .i64 m) ∧ wx.cell? ⟨w.heap.size, 2, none⟩ = some (.slice A la c) ∧ wx.cell? ⟨w.heap.size, 3, none⟩ = some (.slice K n ck) ∧
    wx.cell? ⟨w.heap.size + 1, 0, none⟩ = some (.int .i64 0) ∧ wx.cell? ⟨w.heap.size + 1, 1, none⟩ = some (.int .i64 0) ∧ wx.cell? ⟨w.heap.size + 1, 2, none⟩ = some (.slice none 0 0) ∧ wx.cell? ⟨w.heap.size + 1, 3, none⟩ = some (.slice none 0 0) ∧
    wx.frozen? ⟨w.heap.size + 1, 0, none⟩ = false ∧ wx.frozen? ⟨w.heap.size + 1, 1, none⟩ = false ∧ wx.frozen? ⟨w.heap.size + 1, 2, none⟩ = false ∧ wx.frozen? ⟨w.heap.size + 1, 3, none⟩ = false ∧
    (∀ y0 y1 y2 y3 : Value, ((((wx.setCell ⟨w.heap.size + 1, 0, none⟩ y0).setCell ⟨w.heap.size + 1, 1, none⟩ y1).setCell ⟨w.heap.size + 1, 2, none⟩ y2).setCell ⟨w.heap.size + 1, 3, none⟩ y3).cell? ⟨w.heap.size + 1, 0, none⟩ = some y0) ∧ (∀ y0 y1 y2 y3 : Value, ((((wx.setCell ⟨w.heap.size + 1, 0, none⟩ y0).setCell ⟨w.heap.size + 1, 1, none⟩ y1).setCell ⟨w.heap.size + 1, 2, none⟩ y2).setCell ⟨w.heap.size + 1, 3, none⟩ y3).cell? ⟨w.heap.size + 1, 1, none⟩ = some y1) ∧ (∀ y0 y1 y2 y3 : Value, ((((wx.setCell ⟨w.heap.size + 1, 0, none⟩ y0).setCell ⟨w.heap.size + 1, 1, none⟩ y1).setCell ⟨w.heap.size + 1, 2, none⟩ y2).setCell ⟨w.heap.size + 1, 3, none⟩ y3).cell? ⟨w.heap.size + 1, 2, none⟩ = some y2) ∧ (∀ y0 y1 y2 y3 : Value, ((((wx.setCell ⟨w.heap.size + 1, 0, none⟩ y0).setCell ⟨w.heap.size + 1, 1, none⟩ y1).setCell ⟨w.heap.size + 1, 2, none⟩ y2).setCell ⟨w.heap.size + 1, 3, none⟩ y3).cell? ⟨w.heap.size + 1, 3, none⟩ = some y3) := by
  obtain ⟨a, b, c', d'⟩ := h.cells
  refine ⟨a, b, c', d', by rw [Lib.cell_of_heap h.res]; rfl, by rw [Lib.cell_of_heap h.res]; rfl, by rw [Lib.cell_of_heap h.res]; rfl, by rw [Lib.cell_of_heap h.res]; rfl, Lib.frozen_of_heap h.res _, Lib.frozen_of_heap h.res _, Lib.frozen_of_heap h.res _, Lib.frozen_of_heap h.res _, ?_, ?_, ?_, ?_⟩ <;>
  (intro y0 y1 y2 y3; exact (Lib.cell_of_heap (w := set4 wx (w.heap.size + 1) 0 y0 y1 y2 y3) (set4_box h.res y0 y1 y2 y3) _).trans rfl)
/-- The term in work: so many of its kids are laid. -/
def NR (w : World) (B : Nat → Prop) (o m : Int) (d : List Int) (n : Nat) (A : Option Addr) (la c : Nat) (K : Option Addr) (ck : Nat) (ks : List Tm) (i : Nat) (wx : World) : Prop :=
  ∃ cs1 cs2, NInv w B o m d n A la c K ck ((ks.map normF).take i) (ks.drop i) cs1 cs2 wx
set_option maxRecDepth 100000 in
set_option maxHeartbeats 8000000 in
theorem norm_step (hsort : SortsT) (hnone : SortsNone) (o m : Int) (d : List Int) (ks : List Tm) (hk : ∀ k ∈ ks, NormsAt k) (hd : d.length ≤ 140737488351232) (hn : ks.length ≤ 100000) : NormsAtF (.mk o m d ks) := by
  intro B v w hv
  obtain ⟨c0, c1, c2, c3, rfl, hc⟩ := hv
  unfold TmC at hc
  obtain ⟨rfl, ho, rfl, hm, ⟨A, la, ca, rfl, hA1, hA2, hA3, _⟩, K, ck, rfl, hK1, hK2, hK3⟩ := hc
  rw [normF_mk]
  obtain ⟨RL, hRL⟩ : ∃ x, (if o = 7 then sortI (ks.map normF) else ks.map normF) = x := ⟨_, rfl⟩
  rw [hRL]
  have HRL := Lib.hid hRL
  clear hRL
  obtain ⟨n, hlen⟩ : ∃ x, ks.length = x := ⟨_, rfl⟩
  rw [hlen] at hK1 hK3 hn ⊢
  obtain ⟨cs, hq, hcl, hco, hcc⟩ : ∃ cs, Quads B w ks cs ∧ cs.length = n * 4 ∧ (∀ u ∈ cs, u.oneCell' = true) ∧ (0 < n → ∃ g off, K = some ⟨g, off, none⟩ ∧ g < w.heap.size ∧ ∀ j u, cs[j]? = some u → w.cell? ⟨g, off + j, none⟩ = some u) := by
    rcases Nat.eq_zero_or_pos n with h0 | h0
    · have hk0 : ks = [] := List.eq_nil_of_length_eq_zero (by omega)
      subst hk0
      exact ⟨[], rfl, by simp [h0], fun u hu => by simp at hu, fun h => by omega⟩
    · obtain ⟨g, off, e, hg, _, hks⟩ := hK3 h0
      obtain ⟨cs, hq, hc⟩ := Quads.of hks
      exact ⟨cs, hq, by rw [hq.len, hlen], hq.one, fun _ => ⟨g, off, e, hg, hc⟩⟩
  have hla : la = d.length := hA3.1.symm
  have hl9 : la ≤ 140737488351232 := by omega
  have hclone := fun W hW => bclone_nf A la ca d W hW hA1 hA2 hl9
  have hsclone := fun W hW => sclone_any cs K n ck W hcl hco hW hK1 hK2 hn
  have HCL := Lib.hid hclone
  have HSC := Lib.hid hsclone
  have HIH := Lib.hid hk
  have hK9 : ck ≤ 9223372036854775807 := by unfold maxLen at hK2; omega
  have H3 := Lib.hid hA3
  have HCC := Lib.hid hcc
  have HQ := Lib.hid hq
  have HLEN := Lib.hid hlen
  have HLA := Lib.hid hla
  clear hclone hsclone hk hA3 hK3 hcc hq hcl hco hlen hla
  go_enter Tryz.func38, Tryz.ntmps38
  go_wp2_with fail
  obtain ⟨W0, hW0⟩ : ∃ x, (w.alloc (.cells #[.int .i64 o, .int .i64 m, .slice A la ca, .slice K n ck] 43)).alloc (.cells #[.int .i64 0, .int .i64 0, .slice none 0 0, .slice none 0 0] 43) = x := ⟨_, rfl⟩
  have hz0 : W0.heap.size = w.heap.size + 2 := by rw [← hW0]; simp
  have p0 : W0.heap[w.heap.size]? = some (.cells #[.int .i64 o, .int .i64 m, .slice A la ca, .slice K n ck] 43) := by rw [← hW0, heap_old_ _ _ (by simp)]; exact heap_new_ _ _
  have p1 : W0.heap[w.heap.size + 1]? = some (.cells #[.int .i64 0, .int .i64 0, .slice none 0 0, .slice none 0 0] 43) := by
    rw [← hW0]
    have := heap_new_ (w.alloc (.cells #[.int .i64 o, .int .i64 m, .slice A la ca, .slice K n ck] 43)) (.cells #[.int .i64 0, .int .i64 0, .slice none 0 0, .slice none 0 0] 43)
    rwa [show (w.alloc (.cells #[.int .i64 o, .int .i64 m, .slice A la ca, .slice K n ck] 43)).heap.size = w.heap.size + 1 by simp] at this
  have hb0 : Below w.heap.size w W0 := by rw [← hW0]; exact (below_new _ _).alloc (by simp) _
  rw [hW0]
  have h0 := HCL.out W0 (H3.out.below hb0)
  clear hW0
  have g0 : W0.cell? ⟨w.heap.size, 2, none⟩ = some (.slice A la ca) := by rw [Lib.cell_of_heap p0]; rfl
  go_wp2_with fail
  refine h0.mono ?_
  rintro e w1 ⟨A', c', rfl, hby, ⟨hlc, hcm⟩, hb1, hfar, hnf⟩
  have HNF := Lib.hid hnf
  have q0 := (hb1.block w.heap.size (by omega)).trans p0
  have f2 : w1.frozen? ⟨w.heap.size, 2, none⟩ = false := Lib.frozen_of_heap q0 _
  have f4 : w1.cell? ⟨w.heap.size, 2, none⟩ = some (.slice A la ca) := by rw [Lib.cell_of_heap q0]; rfl
  have f3 : w1.cell? ⟨w.heap.size, 3, none⟩ = some (.slice K n ck) := by rw [Lib.cell_of_heap q0]; rfl
  have hbs : Below w.heap.size w (w1.setCell ⟨w.heap.size, 2, none⟩ (.slice A' la c')) := (hb0.trans (hb1.mono hb0.size)).setCell (Nat.le_refl _) _
  have h1 := HSC.out (w1.setCell ⟨w.heap.size, 2, none⟩ (.slice A' la c')) (fun hp => by
    obtain ⟨g, off, e, hg, hc⟩ := HCC.out hp
    exact ⟨g, off, e, Nat.lt_of_lt_of_le hg hbs.size, fun j u hu => (hbs.cell (p := ⟨g, off + j, none⟩) hg).trans (hc j u hu)⟩)
  have H1 := Lib.hid h1
  have HB := Lib.hid hby
  have HF := Lib.hid hfar
  have HBS := Lib.hid hbs
  have HB1 := Lib.hid hb1
  have Q0 := Lib.hid q0
  clear h1 hby hfar hbs hb1 q0 g0 hnf
  go_wp2_with fail
  refine H1.out.mono ?_
  rintro e w3 ⟨K', ck', rfl, hown, hb3⟩
  rw [set_size] at hb3
  have hown := own_resize hown
  have r0 := (hb3.block w.heap.size (by have := HB1.out.size; omega)).trans (set_heap w1 w.heap.size 2 (.slice A' la c') _ _ _ Q0.out)
  have u3 : w3.frozen? ⟨w.heap.size, 3, none⟩ = false := Lib.frozen_of_heap r0 _
  have v3 : w3.cell? ⟨w.heap.size, 3, none⟩ = some (.slice K n ck) := by rw [Lib.cell_of_heap r0]; rfl
  have hI := NInv.start hb0 hz0 p0 p1 HB1.out HB.out HF.out hb3 hown HQ.out HNF.out
  have hcl := hI.cells.2.2.2
  obtain ⟨K4, ck4, eK4, hnc4, hck4, hrow4⟩ := own4_shape hown
  cases eK4
  have hK49 : ck' ≤ 9223372036854775807 := by unfold maxLen at hck4; omega
  have HI := Lib.hid hI
  have HR4 := Lib.hid hrow4
  clear hI hown hb3 r0 f2 f3 f4 p0 p1 hrow4 HB HF HB1 Q0 HBS HCL HSC H1 HCC h0 H3 HQ
  go_wp2_with fail
  obtain ⟨W4, hW4⟩ : ∃ x, w3.setCell ⟨w.heap.size, 3, none⟩ (.slice K' n ck') = x := ⟨_, rfl⟩
  rw [hW4] at HI ⊢
  clear hW4 hcl u3 v3
  go_loopg [16] (n + 1) (fun gk s16 wx => ∃ (i : Nat), s16 = .int .i64 i ∧ i ≤ n ∧ n - i < gk ∧ NR w B o m d n A' la c' K' ck' ks i wx)
  case atStart => exact ⟨0, rfl, by omega, by omega, [], cs, HI.out⟩
  case round =>
    obtain ⟨i, rfl, hi, hgk, cs1, cs2, hN⟩ := hrel
    have hln := HLEN.out
    by_cases hlt : i < n
    · have hltz : (i : Int) < (n : Int) := by omega
      obtain ⟨gk', rfl⟩ : ∃ g', gk = g' + 1 := ⟨gk - 1, by omega⟩
      obtain ⟨g, rfl, hg1, hg2⟩ := HR4.out (by omega)
      obtain ⟨k, hdk, hmem, htk⟩ := drop_one (ks := ks) (i := i) (by omega)
      rw [hdk] at hN
      have HTK := Lib.hid htk
      have HMEM := Lib.hid hmem
      have hq2 := hN.q2
      obtain ⟨c0, c1, c2, c3, r, rfl, hkd, hr⟩ := hq2
      obtain ⟨o1, m1, A1, la1, ca1, K1, lk1, ck1, rfl, rfl, rfl, rfl⟩ := hkd.shape
      have hl1 : cs1.length = i * 4 := by rw [hN.q1.len, List.length_take, List.length_map]; omega
      have hll := hN.row.1
      simp only [List.length_append, List.length_cons, hl1] at hll
      have ca : ∀ j, j < 4 → wr.cell? ⟨g, i * 4 + j, none⟩ = [Value.int .i64 o1, .int .i64 m1, .slice A1 la1 ca1, .slice K1 lk1 ck1][j]? := fun j hj => by
        rw [hN.row.cellAt (i * 4 + j) (by omega), List.getElem?_append_right (by omega), hl1, Nat.add_sub_cancel_left]
        match j, hj with
        | 0, _ => rfl
        | 1, _ => rfl
        | 2, _ => rfl
        | 3, _ => rfl
      have y0 : wr.cell? ⟨g, i * 4, none⟩ = some (.int .i64 o1) := ca 0 (by omega)
      have y1 : wr.cell? ⟨g, i * 4 + 1, none⟩ = some (.int .i64 m1) := ca 1 (by omega)
      have y2 : wr.cell? ⟨g, i * 4 + 2, none⟩ = some (.slice A1 la1 ca1) := ca 2 (by omega)
      have y3 : wr.cell? ⟨g, i * 4 + 3, none⟩ = some (.slice K1 lk1 ck1) := ca 3 (by omega)
      have HN := Lib.hid hN
      have HKD := Lib.hid hkd
      have HL1 := Lib.hid hl1
      clear hN hkd hr hll ca hl1 hln htk hdk hmem
      go_wp2_with fail
      obtain ⟨W1, hW1⟩ : ∃ x, wr.alloc (.cells #[.int .i64 o1, .int .i64 m1, .slice A1 la1 ca1, .slice K1 lk1 ck1] 43) = x := ⟨_, rfl⟩
      have hbn : Below wr.heap.size wr W1 := by rw [← hW1]; exact below_new _ _
      have hx1 : W1.heap[wr.heap.size]? = some (.cells #[.int .i64 o1, .int .i64 m1, .slice A1 la1 ca1, .slice K1 lk1 ck1] 43) := by rw [← hW1]; exact heap_new_ _ _
      have hzz : W1.heap.size = wr.heap.size + 1 := by rw [← hW1]; simp
      rw [hW1]
      have hbw : Below w.heap.size w W1.drew := (HN.out.bel.trans (hbn.mono HN.out.bel.size)).drew
      have hih := HIH.out k HMEM.out B (.agg #[.int .i64 o1, .int .i64 m1, .slice A1 la1 ca1, .slice K1 lk1 ck1]) W1.drew ⟨_, _, _, _, rfl, TmC.below hbw _ _ _ _ _ HKD.out⟩
      have hall : ∀ W, Below W1.heap.size W1 W → (W.cell? ⟨w.heap.size, 3, none⟩ = some (.slice (some ⟨g, 0, none⟩) n ck') ∧ W.cell? ⟨wr.heap.size, 0, none⟩ = some (.int .i64 o1) ∧ W.cell? ⟨wr.heap.size, 1, none⟩ = some (.int .i64 m1) ∧ W.cell? ⟨wr.heap.size, 2, none⟩ = some (.slice A1 la1 ca1) ∧ W.cell? ⟨wr.heap.size, 3, none⟩ = some (.slice K1 lk1 ck1)) := fun W hW => by
        have hI := HN.out.below (hbn.trans (hW.mono hbn.size))
        have hb := (hW.block wr.heap.size (by omega)).trans hx1
        exact ⟨hI.cells.2.2.2, by rw [Lib.cell_of_heap hb]; rfl, by rw [Lib.cell_of_heap hb]; rfl, by rw [Lib.cell_of_heap hb]; rfl, by rw [Lib.cell_of_heap hb]; rfl⟩
      have hS0 := hall W1.drew (Below.refl _ _).drew
      have HALL := Lib.hid hall
      have hol := HN.out.own_lt (g := g) rfl
      have hne1 : w.heap.size ≠ g := by omega
      have hne2 : wr.heap.size ≠ g := by omega
      clear hol
      have HIH2 := Lib.hid hih
      have HBW := Lib.hid hbw
      have HBN := Lib.hid hbn
      clear hih hbw hW1 hx1 hall y0 y1 y2 y3 hbn
      go_region_held3 (fun W => W.cell? ⟨w.heap.size, 3, none⟩ = some (.slice (some ⟨g, 0, none⟩) n ck') ∧ W.cell? ⟨wr.heap.size, 0, none⟩ = some (.int .i64 o1) ∧ W.cell? ⟨wr.heap.size, 1, none⟩ = some (.int .i64 m1) ∧ W.cell? ⟨wr.heap.size, 2, none⟩ = some (.slice A1 la1 ca1) ∧ W.cell? ⟨wr.heap.size, 3, none⟩ = some (.slice K1 lk1 ck1)) (first | exact hS0 | exact hS6 | exact hS7) ((first | (go_at_call 38; refine HIH2.out.mono ?_; rintro e w6 ⟨v', rfl, ⟨n0, n1, n2, n3, rfl, hk6⟩, hb6⟩; obtain ⟨o6, m6, A6, la6, ca6, K6, lk6, ck6, rfl, rfl, rfl, rfl⟩ := hk6.shape; have hS6 := HALL.out w6 (drew_below hb6); have hT := store_facts HN.out (HBN.out.trans ((drew_below hb6).mono HBN.out.size)) HL1.out; obtain ⟨t0, t1, t2, t3, t4, t5, t6, t7⟩ := hT; have hS7 := after_set hS6 (i * 4) (.int .i64 o6) (.int .i64 m6) (.slice A6 la6 ca6) (.slice K6 lk6 ck6) hne1 hne2)))
      have hst := HN.out.step (HBN.out.trans ((drew_below hb6).mono HBN.out.size)) (TmC.mono (fun b hb => Nat.le_trans (by show wr.heap.size ≤ W1.heap.size; omega) (Nat.le_trans (Nat.le_of_eq rfl) hb)) _ _ _ _ _ hk6)
      rw [HL1.out, ← HTK.out] at hst
      have HST := Lib.hid hst
      clear hst hS6 hS7 hS0 hk6 hb6 HN t0 t1 t2 t3 t4 t5 t6 t7 HKD HL1 HTK HMEM HALL HIH2 HBW HBN
      go_wp2
      go_roundg gk'
      case measure => omega
      case rel => exact ⟨i + 1, by go_num, by omega, by omega, _, _, HST.out⟩
    · have hltz : ¬ (i : Int) < (n : Int) := by omega
      have hge : n ≤ i := by omega
      rw [List.drop_eq_nil_of_le (by omega), List.take_of_length_le (by rw [List.length_map]; omega)] at hN
      have e2 : cs2 = [] := hN.q2
      subst e2
      by_cases h7 : o = 7
      · subst h7
        rcases Nat.eq_zero_or_pos n with h0 | h0
        · subst h0
          have hk0 : ks = [] := List.eq_nil_of_length_eq_zero (by omega)
          subst hk0
          have hR : ([] : List Tm) = RL := by rw [← HRL.out, if_pos rfl]; rfl
          have hno := hnone K' ck' wr
          have HNO := Lib.hid hno
          obtain ⟨f0, f1, f2, f3, s0, s1, s2, s3, t0, t1, t2, t3, r0, r1, r2, r3⟩ := fin_facts hN
          have hend := hN.fin (us := []) rfl ho hm hlc hcm
          have hendf := fun y0 y1 y2 y3 z0 z1 z3 => hN.fin_nf y0 y1 y2 y3 z0 z1 z3
          have HEF := Lib.hid hendf
          rw [show List.map normF [] = RL from hR] at hend
          have HE := Lib.hid hend
          clear hno hN hend hendf hln HRL hR
          go_wp2_with fail
          refine HNO.out.mono ?_
          rintro e w8 ⟨rfl, rfl⟩
          go_wp2_with fail
          refine bodyPost_ret (v := .agg #[.int .i64 7, .int .i64 m, .slice A' la c', .slice K' 0 ck']) ?_ rfl ⟨_, rfl, HE.out.2, HE.out.1, HEF.out _ _ _ _ _ _ _⟩
          simp [results, Tryz.results38, go_sem, r0, r1, r2, r3]
        · obtain ⟨g, rfl, hg1, hg2⟩ := HR4.out (by omega)
          have hrow := hN.row
          rw [List.append_nil] at hrow
          have hs := hsort (Fr w (some ⟨g, 0, none⟩)) (ks.map normF) n g ck' (w.heap.size + 2) cs1 wr (by rw [List.length_map]; omega) (fun b hb e => hb.2 (by rw [e]; rfl)) hrow hN.q1 hn
          have HS := Lib.hid hs
          have hR : sortI (ks.map normF) = RL := by rw [← HRL.out, if_pos rfl]
          have hRlen : RL.length = n := by rw [← hR, sortI_len, List.length_map]; omega
          obtain ⟨f0, f1, f2, f3, _⟩ := fin_facts hN
          have HN := Lib.hid hN
          have HR := Lib.hid hR
          have HRN := Lib.hid hRlen
          clear hs hN hrow hln HRL hR hRlen f1 f2
          go_wp2_with fail
          refine HS.out.mono ?_
          rintro e w8 ⟨rfl, cs', hq', hown', hgr⟩
          have hN8 := HN.out.sorted (us := []) hq' hown' hgr
          rw [HR.out] at hN8
          obtain ⟨f0', f1, f2, f3', s0, s1, s2, s3, t0, t1, t2, t3, r0, r1, r2, r3⟩ := fin_facts hN8
          have hend := hN8.fin (us := []) HRN.out ho hm hlc hcm
          have hendf := fun y0 y1 y2 y3 z0 z1 z3 => hN8.fin_nf y0 y1 y2 y3 z0 z1 z3
          have HEF := Lib.hid hendf
          have HE := Lib.hid hend
          clear hN8 hend hendf HS HN HR HRN hq' hown' hgr
          go_wp2_with fail
          refine bodyPost_ret (v := .agg #[.int .i64 7, .int .i64 m, .slice A' la c', .slice (some ⟨g, 0, none⟩) n ck']) ?_ rfl ⟨_, rfl, HE.out.2, HE.out.1, HEF.out _ _ _ _ _ _ _⟩
          simp [results, Tryz.results38, go_sem, r0, r1, r2, r3]
      · have hb7 : (o == 7) = false := by simpa using h7
        have hR : ks.map normF = RL := by rw [← HRL.out, if_neg h7]
        rw [hR] at hN
        obtain ⟨f0, f1, f2, f3, s0, s1, s2, s3, t0, t1, t2, t3, r0, r1, r2, r3⟩ := fin_facts hN
        have hend := hN.fin (us := []) (by rw [← hR, List.length_map]; omega) ho hm hlc hcm
        have hendf := fun y0 y1 y2 y3 z0 z1 z3 => hN.fin_nf y0 y1 y2 y3 z0 z1 z3
        have HEF := Lib.hid hendf
        have HE := Lib.hid hend
        clear hN hend hendf hln HRL hR
        go_wp2_with fail
        refine bodyPost_ret (v := .agg #[.int .i64 o, .int .i64 m, .slice A' la c', .slice K' n ck']) ?_ rfl ⟨_, rfl, HE.out.2, HE.out.1, HEF.out _ _ _ _ _ _ _⟩
        simp [results, Tryz.results38, go_sem, r0, r1, r2, r3]
theorem norms_all (hsort : SortsT) (hnone : SortsNone) : ∀ (N : Nat) (n : Tm), szT n ≤ N → N ≤ 100000 → fitD n → NormsAtF n
  | 0, .mk _ _ _ ks, h, _, _ => by unfold szT at h; omega
  | N + 1, .mk o m d ks, h, hN, hf => by
    unfold szT at h
    unfold fitD at hf
    refine norm_step hsort hnone o m d ks (fun k hk => (norms_all hsort hnone N k (by have := szTs_mem hk; omega) (by omega) (fitDs_all.1 hf.2 k hk)).weak) hf.1 ?_
    have := len_szTs ks
    omega
end Go.Proofs.YtlhogjigdmpokaaGreatDoor.tmc
namespace Go.Proofs.YtlhogjigdmpokaaGreatDoor.tmc
open Go.RowKit Go.Proofs.YtlhogjigdmpokaaGreatDoor.tlvc
set_option linter.unusedVariables false
def cfT {S : Nat → Prop} {w : World} (x y : El S w) : Int := ordT x.tm y.tm
theorem swo_T (S : Nat → Prop) (w : World) : Sort.SWO (ltOf (cfT (S := S) (w := w))) where
  irrefl x := by unfold ltOf cfT; rw [ordT_refl]; rfl
  trans x y z h k := by
    unfold ltOf cfT at *
    have h := of_decide_eq_true h
    have k := of_decide_eq_true k
    exact decide_eq_true ((ordT_tri _ _ _ (by omega) (by omega)).2 (.inl h))
  ntrans x y z h k := by
    unfold ltOf cfT at *
    have h := of_decide_eq_false h
    have k := of_decide_eq_false k
    refine decide_eq_false ?_
    have h1 : Le y.tm x.tm := by unfold Le; rw [ordT_swap x.tm]; omega
    have h2 : Le z.tm y.tm := by unfold Le; rw [ordT_swap y.tm]; omega
    have h3 := le_trans_ h2 h1
    unfold Le at h3
    rw [ordT_swap x.tm] at h3
    omega
theorem grow_of_below {W w' : World} (hb : Below W.heap.size W w') (hd : W.drawn ≤ w'.drawn) : ∃ q os', w' = Sort.grow (W.drewN q) os' := by
  refine ⟨w'.drawn - W.drawn, w'.heap.extract W.heap.size w'.heap.size, ?_⟩
  have hh : w'.heap = W.heap ++ w'.heap.extract W.heap.size w'.heap.size := by
    apply Array.ext_getElem?
    intro k
    rcases Nat.lt_or_ge k W.heap.size with h | h
    · rw [hb.block k h, Array.getElem?_append_left h]
    · rw [Array.getElem?_append_right h, Array.getElem?_extract]
      by_cases hk : k < w'.heap.size
      · rw [if_pos (by omega)]
        congr 1
        omega
      · rw [if_neg (by omega), Array.getElem?_eq_none (by omega)]
  have ho := hb.os
  have ht := hb.tape
  have hp := hb.output
  cases w' with
  | mk h t d o p =>
    simp only at hh ho ht hp hd
    subst ho ht hp
    unfold Sort.grow World.drewN
    simp only
    rw [← hh, Nat.add_sub_cancel' hd]
/-- The sort's worlds: what lies in other blocks stands. -/
theorem sortW_block {α : Type} [Inhabited α] (enc : α → List Value) (k : Nat) (w : World) (blk off m : Nat) (dk : Array α) (os : Array Obj) {b : Nat} (hb : b ≠ blk) (hl : b < w.heap.size) :
    (sortWorldK enc k w blk off m dk os).heap[b]? = w.heap[b]? := by
  unfold sortWorldK
  rw [Sort.heap_grow_old _ _ (by rw [Sort.size_putRowK]; exact hl)]
  show ((w.heap.modify blk _))[b]? = _
  rw [Array.getElem?_modify, if_neg (Ne.symm hb)]
theorem sortW_at {α : Type} [Inhabited α] (enc : α → List Value) (k : Nat) (w : World) (blk off m : Nat) (dk : Array α) (os : Array Obj) {cur : Array Value} {e : TypeId} {fr : Nat × Nat} (h : w.heap[blk]? = some (.cells cur e fr)) :
    (sortWorldK enc k w blk off m dk os).heap[blk]? = some (.cells (Sort.putCells id off (Sort.flatK enc k dk) cur) e fr) := by
  unfold sortWorldK
  have hl : blk < w.heap.size := (Array.getElem?_eq_some_iff.1 h).1
  rw [Sort.heap_grow_old _ _ (by rw [Sort.size_putRowK]; exact hl)]
  show ((w.heap.modify blk (Sort.onCells (Sort.putCells id off (Sort.flatK enc k dk)))))[blk]? = _
  rw [Array.getElem?_modify, if_pos rfl, h]
  rfl
theorem sortW_stays {α : Type} [Inhabited α] (enc : α → List Value) (k : Nat) (w : World) (blk off m : Nat) (dk : Array α) (os : Array Obj) {S : Nat → Prop} (hS : ∀ b, S b → b ≠ blk) : Stays S w (sortWorldK enc k w blk off m dk os) :=
  ⟨size_sortWorldK_c enc k w blk off m dk os, fun p hp hl => World.cell?_of_block (sortW_block enc k w blk off m dk os (hS _ hp) hl)⟩
theorem isAgg_T : ∀ w, (isAgg (Tryz.sortT_ren.t 24)).run Tryz.prog w = .ok true w := fun _ => by kernel_rfl
theorem sizeOf_T : ∀ w, (Go.sizeOf (Tryz.sortT_ren.t 24)).run Tryz.prog w = .ok 4 w := fun _ => by kernel_rfl
theorem flat_els {S : Nat → Prop} {w : World} (d : Array (El S w)) : (Sort.flatK El.enc 4 d).toList = d.toList.flatMap El.enc := by
  apply List.ext_getElem?
  intro t
  by_cases h : t < d.size * 4
  · rw [els_at d.toList t (by rw [Array.length_toList]; exact h)]
    have h1 := Sort.get_flatK El.enc 4 d t h
    rw [getElem!_pos _ t (by rw [Sort.size_flatK]; exact h)] at h1
    rw [Array.getElem?_toList, Array.getElem?_eq_getElem (by rw [Sort.size_flatK]; exact h), h1]
    congr 3
    rw [List.getD_eq_getElem?_getD, Array.getElem?_toList, getElem!_def]
    cases d[t / 4]? <;> rfl
  · rw [List.getElem?_eq_none (by rw [Array.length_toList, Sort.size_flatK]; omega), List.getElem?_eq_none (by rw [els_len, Array.length_toList]; omega)]
/-- What lies in the row behind a sort. -/
theorem take_put (F : Array Value) (cur : Array Value) (h : F.size ≤ cur.size) : (Sort.putCells id 0 F cur).toList.take F.size = F.toList := by
  apply List.ext_getElem?
  intro t
  rw [List.getElem?_take]
  split
  · rename_i ht
    unfold Sort.putCells
    rw [Array.getElem?_toList, Array.getElem?_mapIdx, Array.getElem?_eq_getElem (by omega), Option.map_some, if_pos ⟨by omega, by omega⟩, Nat.sub_zero, getElem!_pos F t ht, Array.getElem?_toList, Array.getElem?_eq_getElem ht]
    rfl
  · rename_i ht
    rw [List.getElem?_eq_none (by rw [Array.length_toList]; omega)]
theorem sort_any (S : Nat → Prop) (ks : List Tm) (n g cap base : Nat) (cs : List Value) (w : World) (hn : ks.length = n) (hS : ∀ b, S b → b ≠ g) (hown : w.ownsRow base 43 4 (.slice (some ⟨g, 0, none⟩) n cap) n cs) (hq : Quads S w ks cs) (hlim : n ≤ 100000) :
    Calls Tryz.prog 69 #[.slice (some ⟨g, 0, none⟩) n cap, .func (.func 70) #[] #[]] w fun e w' => e = .returned (.tuple #[]) ∧ ∃ cs', Quads S w' (sortI ks) cs' ∧ w'.ownsRow base 43 4 (.slice (some ⟨g, 0, none⟩) n cap) n cs' ∧ w.grownBy w' (some g) := by
  subst hn
  obtain ⟨dl, hd1, hd2⟩ := hq.els
  have hdl : dl.length = ks.length := by rw [← hd1, List.length_map]
  have hcl := hq.len
  obtain ⟨g', cap', cur, e1, hbg, hg, hnc, hcm, hcs, htake⟩ : ∃ g' cap' cur, (Value.slice (some ⟨g, 0, none⟩) ks.length cap = .slice (some ⟨g', 0, none⟩) ks.length cap') ∧ base ≤ g' ∧ w.heap[g']? = some (.cells cur 43 (0, 0)) ∧ ks.length ≤ cap' ∧ cap' ≤ maxLen ∧ cur.size = cap' * 4 ∧ cur.toList.take (ks.length * 4) = cs := by
    rcases hown.2 with ⟨h, _⟩ | h
    · cases h
    · exact h
  cases e1
  have hgl : g < w.heap.size := (Array.getElem?_eq_some_iff.1 hg).1
  have hsz : dl.toArray.size = ks.length := by simpa using hdl
  have hH : Sort.HoldsK El.enc 4 w g 0 dl.toArray := by
    intro j hj
    rw [Sort.size_flatK, hsz] at hj
    refine ⟨?_, hown.frozenAt (0 + j)⟩
    have h1 : w.cell? ⟨g, 0 + j, none⟩ = cs[j]? := by rw [Nat.zero_add]; exact hown.cellAt j hj
    rw [h1, ← hd2]
    have h2 := congrArg (fun l => l[j]?) (flat_els dl.toArray)
    simp only at h2
    rw [Array.getElem?_toList, Array.getElem?_eq_getElem (by rw [Sort.size_flatK, hsz]; exact hj)] at h2
    show (dl.flatMap El.enc)[j]? = some (id (Sort.flatK El.enc 4 dl.toArray)[j]!)
    rw [getElem!_pos _ j (by rw [Sort.size_flatK, hsz]; exact hj)]
    exact h2.symm
  have hcmp : CmpLays Tryz.prog 70 #[] (El.enc (S := S) (w := w)) 4 cfT g 0 dl.toArray.size w := by
    intro m os dk hdk x y
    have hst := sortW_stays (El.enc (S := S) (w := w)) 4 w g 0 m dk os hS
    exact (order_d x.tm y.tm S S (.agg #[x.c0, x.c1, x.c2, x.c3]) (.agg #[y.c0, y.c1, y.c2, y.c3]) _ ⟨_, _, _, _, rfl, TmC.stays hst _ _ _ _ _ x.h⟩ ⟨_, _, _, _, rfl, TmC.stays hst _ _ _ _ _ y.h⟩).mono fun e w' h => ⟨h.1, grow_of_below h.2.1 h.2.2⟩
  have hcon := AnyQ.slices_SortFunc Tryz.sortT 4 isAgg_T sizeOf_T (El.enc (S := S) (w := w)) (fun _ => rfl) (fun x v hv => by
    obtain ⟨o0, o1, o2, o3⟩ := x.h.one
    simp only [El.enc, List.mem_cons, List.not_mem_nil, or_false] at hv
    rcases hv with rfl | rfl | rfl | rfl <;> assumption) cfT (swo_T S w) 70 #[] g 0 cap dl.toArray w (enters_of Tryz.func70 (by kernel_rfl) rfl) hcmp hH hgl (by rw [hsz]; omega)
  rw [hsz] at hcon
  refine hcon.mono ?_
  rintro e w' ⟨he, d', m, os, hp, hs, rfl⟩
  obtain ⟨hp1, _, hp3⟩ := hp
  rw [hsz] at hp1
  have ex : ∀ d : Array (El S w), d.size = ks.length → d.extract 0 ks.length = d := fun d h => by rw [← h]; simp
  rw [ex d' hp1, ex dl.toArray hsz] at hp3
  have hperm : (d'.toList.map El.tm).Perm ks := by rw [← hd1]; exact hp3.map El.tm
  have hsort : (d'.toList.map El.tm).Pairwise Le := by
    rw [List.pairwise_iff_getElem]
    intro i j hi hj hij
    simp only [List.length_map, Array.length_toList] at hi hj
    have h1 := hs i j (Nat.zero_le _) hij (by omega)
    rw [getElem!_pos d' i hi, getElem!_pos d' j hj] at h1
    unfold ltOf cfT at h1
    have h1 := of_decide_eq_false h1
    simp only [List.getElem_map, Array.getElem_toList]
    unfold Le
    rw [ordT_swap d'[j].tm]
    omega
  have huniq := sortI_uniq hsort hperm
  have hq' := els_quads d'.toList
  rw [huniq] at hq'
  have hst := sortW_stays (El.enc (S := S) (w := w)) 4 w g 0 m d' os hS
  refine ⟨he, d'.toList.flatMap El.enc, hq'.stays hst, ⟨by rw [els_len, Array.length_toList, hp1], .inr ⟨g, cap, _, rfl, hbg, sortW_at _ 4 w g 0 m d' os hg, hnc, hcm, ?_, ?_⟩⟩, ⟨rfl, rfl, rfl, hst.1, fun b hb hne => sortW_block _ 4 w g 0 m d' os (fun h => hne (by rw [h])) hb⟩⟩
  · unfold Sort.putCells; rw [Array.size_mapIdx]; exact hcs
  · have := take_put (Sort.flatK El.enc 4 d') cur (by rw [Sort.size_flatK, hp1, hcs]; exact Nat.mul_le_mul_right _ hnc)
    rw [Sort.size_flatK, hp1, flat_els] at this
    exact this
theorem sort_none (A : Option Addr) (cap : Nat) (w : World) : Calls Tryz.prog 69 #[.slice A 0 cap, .func (.func 70) #[] #[]] w fun e w' => e = .returned (.tuple #[]) ∧ w' = w :=
  AnyF.slices_SortFunc_none Tryz.sortT A cap _ w
end Go.Proofs.YtlhogjigdmpokaaGreatDoor.tmc
namespace Go.Proofs.YtlhogjigdmpokaaGreatDoor.tmc
open Go.RowKit Go.Proofs.YtlhogjigdmpokaaGreatDoor.tlvc
theorem norm_nf (n : Tm) (h : szT n ≤ 100000) (hf : fitD n) : NormsAtF n :=
  norms_all (fun S ks n g cap base cs w h1 h2 h3 h4 h5 => sort_any S ks n g cap base cs w h1 h2 h3 h4 h5) (fun A cap w => sort_none A cap w) _ n (Nat.le_refl _) h hf
theorem norm_any (n : Tm) (h : szT n ≤ 100000) (hf : fitD n) : NormsAt n := (norm_nf n h hf).weak
end Go.Proofs.YtlhogjigdmpokaaGreatDoor.tmc
