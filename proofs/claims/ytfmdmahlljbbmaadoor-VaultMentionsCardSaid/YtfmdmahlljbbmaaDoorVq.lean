/- The program's Mentions: sorted and compacted, they are the document's. -/
import Derived.Test.YtfmdmahlljbbmaaDoorVo
import Derived.Test.YtfmdmahlljbbmaaDoorVg
import Derived.Test.YtfmdmahlljbbmaaDoorShelfB
import Derived.Sort.OwnSortedInts
import Derived.Shelf.Sort.Plain
import Derived.Shelf.Slices.In.SortNone
import Derived.Shelf.Slices.CompactI
import Derived.Lib.RowBridge
namespace Go.Proofs.YtfmdmahlljbbmaaDoor.vtc
open Go.RowKit Go.Proofs.YtfmdmahlljbbmaaDoor.tlvc Go.Proofs.YtfmdmahlljbbmaaDoor.tmc
set_option linter.unusedVariables false
/-- What the first k places mention, in their order. -/
def foundF (b : List Int) (below : Int) : Nat → List Int
  | 0 => []
  | k + 1 => match atF b k with
    | some n => if n < below then foundF b below k ++ [n] else foundF b below k
    | none => foundF b below k
theorem foundF_mem (b : List Int) (below : Int) (m : Int) : ∀ k, m ∈ foundF b below k ↔ m < below ∧ ∃ i, i < k ∧ atF b i = some m
  | 0 => by unfold foundF; simp
  | k + 1 => by
    have ih := foundF_mem b below m k
    have hs : (∃ i, i < k + 1 ∧ atF b i = some m) ↔ (∃ i, i < k ∧ atF b i = some m) ∨ atF b k = some m := by
      constructor
      · rintro ⟨i, hi, h⟩
        rcases Nat.lt_or_ge i k with h2 | h2
        · exact .inl ⟨i, h2, h⟩
        · obtain rfl : i = k := by omega
          exact .inr h
      · rintro (⟨i, hi, h⟩ | h)
        · exact ⟨i, by omega, h⟩
        · exact ⟨k, by omega, h⟩
    rw [hs]
    unfold foundF
    split
    · rename_i n hn
      split
      · rename_i hb
        rw [List.mem_append, List.mem_singleton, ih]
        constructor
        · rintro (⟨h1, h2⟩ | rfl)
          · exact ⟨h1, .inl h2⟩
          · exact ⟨hb, .inr hn⟩
        · rintro ⟨h1, h2 | h2⟩
          · exact .inl ⟨h1, h2⟩
          · rw [hn] at h2; exact .inr (Option.some.inj h2).symm
      · rename_i hb
        rw [ih]
        constructor
        · rintro ⟨h1, h2⟩; exact ⟨h1, .inl h2⟩
        · rintro ⟨h1, h2 | h2⟩
          · exact ⟨h1, h2⟩
          · rw [hn] at h2; cases h2; omega
    · rename_i hn
      rw [ih]
      constructor
      · rintro ⟨h1, h2⟩; exact ⟨h1, .inl h2⟩
      · rintro ⟨h1, h2 | h2⟩
        · exact ⟨h1, h2⟩
        · rw [hn] at h2; cases h2
theorem foundF_len (b : List Int) (below : Int) : ∀ k, (foundF b below k).length ≤ k
  | 0 => by unfold foundF; simp
  | k + 1 => by
    have := foundF_len b below k
    unfold foundF
    split
    · split
      · rw [List.length_append]; simp; omega
      · omega
    · omega
theorem atF_bd {b : List Int} (hf : Fit b) {i : Nat} {m : Int} (h : atF b i = some m) : 0 ≤ m ∧ m < 281474976710656 := by
  unfold atF at h
  split at h
  · exact (num_some (fun x hx => hf x (List.mem_of_mem_drop (List.mem_of_mem_take hx))) h).1
  · cases h
theorem foundF_fit {b : List Int} (hf : Fit b) (below : Int) (k : Nat) : Fit8 (foundF b below k) := fun m hm => by
  obtain ⟨_, i, _, h⟩ := (foundF_mem b below m k).1 hm
  have := atF_bd hf h
  omega
/-- Compact of what is sorted rises, and has the same numbers. -/
theorem compact_up (d : Array Int) (hs : ∀ i j, i ≤ j → j < d.size → d[i]! ≤ d[j]!) : ∀ m, m ≤ d.size → Rise (Lib.compactUpTo d m) ∧ (∀ x, x ∈ Lib.compactUpTo d m ↔ ∃ j, j < m ∧ d[j]! = x)
  | 0, _ => ⟨by unfold Lib.compactUpTo; exact List.Pairwise.nil, fun x => by unfold Lib.compactUpTo; simp⟩
  | m + 1, h => by
    obtain ⟨i1, i2⟩ := compact_up d hs m (by omega)
    have hmem : ∀ x, (∃ j, j < m + 1 ∧ d[j]! = x) ↔ (∃ j, j < m ∧ d[j]! = x) ∨ d[m]! = x := fun x => by
      constructor
      · rintro ⟨j, hj, e⟩
        rcases Nat.lt_or_ge j m with h2 | h2
        · exact .inl ⟨j, h2, e⟩
        · obtain rfl : j = m := by omega
          exact .inr e
      · rintro (⟨j, hj, e⟩ | e)
        · exact ⟨j, by omega, e⟩
        · exact ⟨m, by omega, e⟩
    rw [Lib.compactUpTo_succ]
    cases hk : Lib.keeps d m with
    | true =>
      rw [if_pos rfl]
      refine ⟨?_, fun x => ?_⟩
      · unfold Rise
        rw [List.pairwise_append]
        refine ⟨i1, by simp, fun x hx y hy => ?_⟩
        rw [List.mem_singleton.1 hy]
        obtain ⟨j, hj, rfl⟩ := (i2 x).1 hx
        unfold Lib.keeps at hk
        have hk := of_decide_eq_true hk
        have h1 := hs j (m - 1) (by omega) (by omega)
        have h2 := hs (m - 1) m (by omega) (by omega)
        rcases hk with h0 | h0
        · omega
        · omega
      · rw [List.mem_append, i2, List.mem_singleton, hmem]
        constructor
        · rintro (h1 | h1)
          · exact .inl h1
          · exact .inr h1.symm
        · rintro (h1 | h1)
          · exact .inl h1
          · exact .inr h1.symm
    | false =>
      rw [if_neg (by decide), List.append_nil]
      refine ⟨i1, fun x => ?_⟩
      rw [i2, hmem]
      constructor
      · exact .inl
      · rintro (h1 | h1)
        · exact h1
        · unfold Lib.keeps at hk
          have hk := of_decide_eq_false hk
          have h0 : m ≠ 0 := fun e => hk (.inl e)
          have h2 : d[m]! = d[m - 1]! := Classical.byContradiction fun e => hk (.inr e)
          exact ⟨m - 1, by omega, by rw [← h2]; exact h1⟩
def sortZ (zs : List Int) : List Int := zs.mergeSort fun x y => decide (x ≤ y)
theorem sortZ_mem (zs : List Int) (x : Int) : x ∈ sortZ zs ↔ x ∈ zs := List.mem_mergeSort
theorem sortZ_len (zs : List Int) : (sortZ zs).length = zs.length := List.length_mergeSort zs
theorem sortZ_up (zs : List Int) : (sortZ zs).Pairwise (· ≤ ·) := by
  have := List.pairwise_mergeSort (le := fun x y : Int => decide (x ≤ y)) (fun a b c h1 h2 => by simp at *; omega) (fun a b => by simp; omega) zs
  exact this.imp fun h => by simpa using h
theorem compactZ (zs : List Int) : Rise (Lib.compact (sortZ zs)) ∧ ∀ x, x ∈ Lib.compact (sortZ zs) ↔ x ∈ zs := by
  have h := compact_up (sortZ zs).toArray (fun i j hij hj => by
    have hj : j < (sortZ zs).length := by simpa using hj
    rcases Nat.lt_or_ge i j with h | h
    · have := List.pairwise_iff_getElem.1 (sortZ_up zs) i j (by omega) hj h
      simpa [show i < (sortZ zs).length by omega, hj] using this
    · obtain rfl : i = j := by omega
      exact Int.le_refl _) (sortZ zs).length (by simp)
  refine ⟨h.1, fun x => ?_⟩
  unfold Lib.compact
  rw [h.2 x, ← sortZ_mem zs x]
  constructor
  · rintro ⟨j, hj, rfl⟩
    simp [hj]
  · intro hx
    obtain ⟨j, hj, e⟩ := List.getElem_of_mem hx
    exact ⟨j, hj, by simp [hj, e]⟩
theorem mentions_found (b : List Int) (below : Int) : Lib.compact (sortZ (foundF b below (b.length - 9))) = mentionsF b below := by
  obtain ⟨h1, h2⟩ := compactZ (foundF b below (b.length - 9))
  refine mentions_is h1 fun m => ?_
  rw [h2, foundF_mem]
  constructor
  · rintro ⟨h1, i, _, h⟩; exact ⟨h1, i, h⟩
  · rintro ⟨h1, i, h⟩
    refine ⟨h1, i, ?_, h⟩
    unfold atF at h
    split at h
    · omega
    · cases h
theorem sort_own (base g n cap : Nat) (zs : List Int) (w : World) (hown : w.ownsRow base 3 1 (.slice (some ⟨g, 0, none⟩) n cap) n (ivals zs)) (hn : n ≤ 1000000) :
    Calls Tryd.prog 53 #[.slice (some ⟨g, 0, none⟩) n cap] w fun e w' => e = .returned (.tuple #[]) ∧ w'.ownsRow base 3 1 (.slice (some ⟨g, 0, none⟩) n cap) n (ivals (sortZ zs)) ∧ w.grownBy w' (some g) := by
  have hl : zs.length = n := by have := hown.1; rw [ivals_length] at this; omega
  rcases hown.2 with ⟨h0, _⟩ | ⟨g', cap', cur, hv, hg, hb, hnc, hcm, hcs, htk⟩
  · cases h0
  · cases hv
    rw [Nat.mul_one] at htk
    have hH := holds_of_blockI (ss := zs) hb (by rw [hl]; exact htk)
    have h := Any.slices_Sort_int Tryd.lays189 g 0 cap zs w hH (Array.getElem?_eq_some_iff.1 hb).1 (by omega)
    rw [hl] at h
    refine Calls.mono (show Calls Tryd.prog 53 #[.slice (some ⟨g, 0, none⟩) n cap] w _ from h) ?_
    rintro e w' ⟨rfl, q, os, rfl⟩
    have h2 := ownsRow_sortedI (w := w) (base := base) (n := q) (os := os) (cap := cap) (ss := zs) (ts := sortZ zs) (sortZ_len zs) hg hb (by omega) hcm hcs
    rw [hl] at h2
    exact ⟨rfl, h2, grownBy_sortedI _⟩
theorem compact_own (base g n cap : Nat) (zs : List Int) (w : World) (hown : w.ownsRow base 3 1 (.slice (some ⟨g, 0, none⟩) n cap) n (ivals zs)) (hn : n ≤ 1000000) :
    Calls Tryd.prog 54 #[.slice (some ⟨g, 0, none⟩) n cap] w fun e w' => e = .returned (.slice (some ⟨g, 0, none⟩) (Lib.compact zs).length cap) ∧ w'.ownsRow base 3 1 (.slice (some ⟨g, 0, none⟩) (Lib.compact zs).length cap) (Lib.compact zs).length (ivals (Lib.compact zs)) ∧ w.grownBy w' (some g) := by
  have hl : zs.length = n := by have := hown.1; rw [ivals_length] at this; omega
  have hle := Lib.compact_length_le zs
  rcases hown.2 with ⟨h0, _⟩ | ⟨g', cap', cur, hv, hg, hb, hnc, hcm, hcs, htk⟩
  · cases h0
  · cases hv
    rw [Nat.mul_one] at htk hcs
    have hH := holds_of_blockI (ss := zs) hb (by rw [hl]; exact htk)
    have h := Any.slices_Compact_int Tryd.lays20 g 0 cap zs w hH (by omega) (by omega)
    rw [hl] at h
    refine Calls.mono (show Calls Tryd.prog 54 #[.slice (some ⟨g, 0, none⟩) n cap] w _ from h) ?_
    rintro e w' ⟨rfl, q, rfl⟩
    have hlen : (Lib.compact zs ++ List.replicate (n - (Lib.compact zs).length) 0).length = zs.length := by simp; omega
    have h2 := ownsRow_sortedI (w := w) (base := base) (n := q) (os := #[]) (cap := cap) (ss := zs) (ts := Lib.compact zs ++ List.replicate (n - (Lib.compact zs).length) 0) hlen hg hb (by omega) hcm (by omega)
    rw [Sort.grow_empty, hl] at h2
    refine ⟨rfl, ?_, ?_⟩
    · rcases h2.2 with ⟨h0, _⟩ | ⟨g', cap', cur', hv', hg', hb', hnc', hcm', hcs', htk'⟩
      · cases h0
      · cases hv'
        refine ⟨by rw [ivals_length, Nat.mul_one], .inr ⟨g, cap, cur', rfl, hg', hb', by omega, hcm', hcs', ?_⟩⟩
        rw [Nat.mul_one] at htk' ⊢
        have e : cur'.toList.take (Lib.compact zs).length = (cur'.toList.take n).take (Lib.compact zs).length := by rw [List.take_take, Nat.min_eq_left (by omega)]
        rw [e, htk', List.map_append, List.take_append_of_le_length (by simp), List.take_of_length_le (by simp)]
        rfl
    · have h3 := grownBy_sortedI (w := w) (g := g) (n := q) (os := #[]) (Lib.compact zs ++ List.replicate (n - (Lib.compact zs).length) 0).toArray
      rw [Sort.grow_empty] at h3
      exact h3
end Go.Proofs.YtfmdmahlljbbmaaDoor.vtc
