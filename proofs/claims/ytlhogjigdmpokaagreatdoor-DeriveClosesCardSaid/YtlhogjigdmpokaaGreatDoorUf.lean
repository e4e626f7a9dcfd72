/- The program's Mentions: sorted and compacted, they are the document's. The program's Mentions, walked. -/
import Derived.Test.YtlhogjigdmpokaaGreatDoorUe
import Derived.Test.YtlhogjigdmpokaaGreatDoorUc
import Derived.Test.YtlhogjigdmpokaaGreatDoorShelfB
import Derived.Sort.OwnSortedInts
import Derived.Shelf.Sort.Plain
import Derived.Shelf.Slices.In.SortNone
import Derived.Shelf.Slices.CompactI
import Derived.Lib.RowBridge
namespace Go.Proofs.YtlhogjigdmpokaaGreatDoor.vtc
open Go.RowKit Go.Proofs.YtlhogjigdmpokaaGreatDoor.tlvc Go.Proofs.YtlhogjigdmpokaaGreatDoor.tmc
set_option linter.unusedVariables false
/-- What the first k places mention, in their order. -/
def foundF (b : List Int) (below : Int) : Nat → List Int
  | 0 => []
  | k + 1 => match atF b k with
    | some n => if n < below then foundF b below k ++ [n] else foundF b below k
    | none => foundF b below k
theorem foundF_mem (b : List Int) (below : Int) (m : Int) : ∀ k, m ∈ foundF b below k ↔ m < below ∧ ∃ i, i < k ∧ atF b i = some m
  | 0 => by unfold foundF; simp
  | k + 1 => by
    have ih := foundF_mem b below m k
    have hs : (∃ i, i < k + 1 ∧ atF b i = some m) ↔ (∃ i, i < k ∧ atF b i = some m) ∨ atF b k = some m := by
      constructor
      · rintro ⟨i, hi, h⟩
        rcases Nat.lt_or_ge i k with h2 | h2
        · exact .inl ⟨i, h2, h⟩
        · obtain rfl : i = k := by omega
          exact .inr h
      · rintro (⟨i, hi, h⟩ | h)
        · exact ⟨i, by omega, h⟩
        · exact ⟨k, by omega, h⟩
    rw [hs]
    unfold foundF
    split
    · rename_i n hn
      split
      · rename_i hb
        rw [List.mem_append, List.mem_singleton, ih]
        constructor
        · rintro (⟨h1, h2⟩ | rfl)
          · exact ⟨h1, .inl h2⟩
          · exact ⟨hb, .inr hn⟩
        · rintro ⟨h1, h2 | h2⟩
          · exact .inl ⟨h1, h2⟩
          · rw [hn] at h2; exact .inr (Option.some.inj h2).symm
      · rename_i hb
        rw [ih]
        constructor
        · rintro ⟨h1, h2⟩; exact ⟨h1, .inl h2⟩
        · rintro ⟨h1, h2 | h2⟩
          · exact ⟨h1, h2⟩
          · rw [hn] at h2; cases h2; omega
    · rename_i hn
      rw [ih]
      constructor
      · rintro ⟨h1, h2⟩; exact ⟨h1, .inl h2⟩
      · rintro ⟨h1, h2 | h2⟩
        · exact ⟨h1, h2⟩
        · rw [hn] at h2; cases h2
theorem foundF_len (b : List Int) (below : Int) : ∀ k, (foundF b below k).length ≤ k
  | 0 => by unfold foundF; simp
  | k + 1 => by
    have := foundF_len b below k
    unfold foundF
    split
    · split
      · rw [List.length_append]; simp; omega
      · omega
    · omega
theorem atF_bd {b : List Int} (hf : Fit b) {i : Nat} {m : Int} (h : atF b i = some m) : 0 ≤ m ∧ m < 281474976710656 := by
  unfold atF at h
  split at h
  · exact (num_some (fun x hx => hf x (List.mem_of_mem_drop (List.mem_of_mem_take hx))) h).1
  · cases h
theorem foundF_fit {b : List Int} (hf : Fit b) (below : Int) (k : Nat) : Fit8 (foundF b below k) := fun m hm => by
  obtain ⟨_, i, _, h⟩ := (foundF_mem b below m k).1 hm
  have := atF_bd hf h
  omega
/-- Compact of what is sorted rises, and has the same numbers. -/
theorem compact_up (d : Array Int) (hs : ∀ i j, i ≤ j → j < d.size → d[i]! ≤ d[j]!) : ∀ m, m ≤ d.size → Rise (Lib.compactUpTo d m) ∧ (∀ x, x ∈ Lib.compactUpTo d m ↔ ∃ j, j < m ∧ d[j]! = x)
  | 0, _ => ⟨by unfold Lib.compactUpTo; exact List.Pairwise.nil, fun x => by unfold Lib.compactUpTo; simp⟩
  | m + 1, h => by
    obtain ⟨i1, i2⟩ := compact_up d hs m (by omega)
    have hmem : ∀ x, (∃ j, j < m + 1 ∧ d[j]! = x) ↔ (∃ j, j < m ∧ d[j]! = x) ∨ d[m]! = x := fun x => by
      constructor
      · rintro ⟨j, hj, e⟩
        rcases Nat.lt_or_ge j m with h2 | h2
        · exact .inl ⟨j, h2, e⟩
        · obtain rfl : j = m := by omega
          exact .inr e
      · rintro (⟨j, hj, e⟩ | e)
        · exact ⟨j, by omega, e⟩
        · exact ⟨m, by omega, e⟩
    rw [Lib.compactUpTo_succ]
    cases hk : Lib.keeps d m with
    | true =>
      rw [if_pos rfl]
      refine ⟨?_, fun x => ?_⟩
      · unfold Rise
        rw [List.pairwise_append]
        refine ⟨i1, by simp, fun x hx y hy => ?_⟩
        rw [List.mem_singleton.1 hy]
        obtain ⟨j, hj, rfl⟩ := (i2 x).1 hx
        unfold Lib.keeps at hk
        have hk := of_decide_eq_true hk
        have h1 := hs j (m - 1) (by omega) (by omega)
        have h2 := hs (m - 1) m (by omega) (by omega)
        rcases hk with h0 | h0
        · omega
        · omega
      · rw [List.mem_append, i2, List.mem_singleton, hmem]
        constructor
        · rintro (h1 | h1)
          · exact .inl h1
          · exact .inr h1.symm
        · rintro (h1 | h1)
          · exact .inl h1
          · exact .inr h1.symm
    | false =>
      rw [if_neg (by decide), List.append_nil]
      refine ⟨i1, fun x => ?_⟩
      rw [i2, hmem]
      constructor
      · exact .inl
      · rintro (h1 | h1)
        · exact h1
        · unfold Lib.keeps at hk
          have hk := of_decide_eq_false hk
          have h0 : m ≠ 0 := fun e => hk (.inl e)
          have h2 : d[m]! = d[m - 1]! := Classical.byContradiction fun e => hk (.inr e)
          exact ⟨m - 1, by omega, by rw [← h2]; exact h1⟩
def sortZ (zs : List Int) : List Int := zs.mergeSort fun x y => decide (x ≤ y)
theorem sortZ_mem (zs : List Int) (x : Int) : x ∈ sortZ zs ↔ x ∈ zs := List.mem_mergeSort
theorem sortZ_len (zs : List Int) : (sortZ zs).length = zs.length := List.length_mergeSort zs
theorem sortZ_up (zs : List Int) : (sortZ zs).Pairwise (· ≤ ·) := by
  have := List.pairwise_mergeSort (le := fun x y : Int => decide (x ≤ y)) (fun a b c h1 h2 => by simp at *; omega) (fun a b => by simp; omega) zs
  exact this.imp fun h => by simpa using h
theorem compactZ (zs : List Int) : Rise (Lib.compact (sortZ zs)) ∧ ∀ x, x ∈ Lib.compact (sortZ zs) ↔ x ∈ zs := by
  have h := compact_up (sortZ zs).toArray (fun i j hij hj => by
    have hj : j < (sortZ zs).length := by simpa using hj
    rcases Nat.lt_or_ge i j with h | h
    · have := List.pairwise_iff_getElem.1 (sortZ_up zs) i j (by omega) hj h
      simpa [show i < (sortZ zs).length by omega, hj] using this
    · obtain rfl : i = j := by omega
      exact Int.le_refl _) (sortZ zs).length (by simp)
  refine ⟨h.1, fun x => ?_⟩
  unfold Lib.compact
  rw [h.2 x, ← sortZ_mem zs x]
  constructor
  · rintro ⟨j, hj, rfl⟩
    simp [hj]
  · intro hx
    obtain ⟨j, hj, e⟩ := List.getElem_of_mem hx
    exact ⟨j, hj, by simp [hj, e]⟩
theorem mentions_found (b : List Int) (below : Int) : Lib.compact (sortZ (foundF b below (b.length - 9))) = mentionsF b below := by
  obtain ⟨h1, h2⟩ := compactZ (foundF b below (b.length - 9))
  refine mentions_is h1 fun m => ?_
  rw [h2, foundF_mem]
  constructor
  · rintro ⟨h1, i, _, h⟩; exact ⟨h1, i, h⟩
  · rintro ⟨h1, i, h⟩
    refine ⟨h1, i, ?_, h⟩
    unfold atF at h
    split at h
    · omega
    · cases h
theorem sort_own (base g n cap : Nat) (zs : List Int) (w : World) (hown : w.ownsRow base 3 1 (.slice (some ⟨g, 0, none⟩) n cap) n (ivals zs)) (hn : n ≤ 1000000) :
    Calls Tryz.prog 61 #[.slice (some ⟨g, 0, none⟩) n cap] w fun e w' => e = .returned (.tuple #[]) ∧ w'.ownsRow base 3 1 (.slice (some ⟨g, 0, none⟩) n cap) n (ivals (sortZ zs)) ∧ w.grownBy w' (some g) := by
  have hl : zs.length = n := by have := hown.1; rw [ivals_length] at this; omega
  rcases hown.2 with ⟨h0, _⟩ | ⟨g', cap', cur, hv, hg, hb, hnc, hcm, hcs, htk⟩
  · cases h0
  · cases hv
    rw [Nat.mul_one] at htk
    have hH := holds_of_blockI (ss := zs) hb (by rw [hl]; exact htk)
    have h := Any.slices_Sort_int Tryz.lays189 g 0 cap zs w hH (Array.getElem?_eq_some_iff.1 hb).1 (by omega)
    rw [hl] at h
    refine Calls.mono (show Calls Tryz.prog 61 #[.slice (some ⟨g, 0, none⟩) n cap] w _ from h) ?_
    rintro e w' ⟨rfl, q, os, rfl⟩
    have h2 := ownsRow_sortedI (w := w) (base := base) (n := q) (os := os) (cap := cap) (ss := zs) (ts := sortZ zs) (sortZ_len zs) hg hb (by omega) hcm hcs
    rw [hl] at h2
    exact ⟨rfl, h2, grownBy_sortedI _⟩
theorem compact_own (base g n cap : Nat) (zs : List Int) (w : World) (hown : w.ownsRow base 3 1 (.slice (some ⟨g, 0, none⟩) n cap) n (ivals zs)) (hn : n ≤ 1000000) :
    Calls Tryz.prog 62 #[.slice (some ⟨g, 0, none⟩) n cap] w fun e w' => e = .returned (.slice (some ⟨g, 0, none⟩) (Lib.compact zs).length cap) ∧ w'.ownsRow base 3 1 (.slice (some ⟨g, 0, none⟩) (Lib.compact zs).length cap) (Lib.compact zs).length (ivals (Lib.compact zs)) ∧ w.grownBy w' (some g) := by
  have hl : zs.length = n := by have := hown.1; rw [ivals_length] at this; omega
  have hle := Lib.compact_length_le zs
  rcases hown.2 with ⟨h0, _⟩ | ⟨g', cap', cur, hv, hg, hb, hnc, hcm, hcs, htk⟩
  · cases h0
  · cases hv
    rw [Nat.mul_one] at htk hcs
    have hH := holds_of_blockI (ss := zs) hb (by rw [hl]; exact htk)
    have h := Any.slices_Compact_int Tryz.lays20 g 0 cap zs w hH (by omega) (by omega)
    rw [hl] at h
    refine Calls.mono (show Calls Tryz.prog 62 #[.slice (some ⟨g, 0, none⟩) n cap] w _ from h) ?_
    rintro e w' ⟨rfl, q, rfl⟩
    have hlen : (Lib.compact zs ++ List.replicate (n - (Lib.compact zs).length) 0).length = zs.length := by simp; omega
    have h2 := ownsRow_sortedI (w := w) (base := base) (n := q) (os := #[]) (cap := cap) (ss := zs) (ts := Lib.compact zs ++ List.replicate (n - (Lib.compact zs).length) 0) hlen hg hb (by omega) hcm (by omega)
    rw [Sort.grow_empty, hl] at h2
    refine ⟨rfl, ?_, ?_⟩
    · rcases h2.2 with ⟨h0, _⟩ | ⟨g', cap', cur', hv', hg', hb', hnc', hcm', hcs', htk'⟩
      · cases h0
      · cases hv'
        refine ⟨by rw [ivals_length, Nat.mul_one], .inr ⟨g, cap, cur', rfl, hg', hb', by omega, hcm', hcs', ?_⟩⟩
        rw [Nat.mul_one] at htk' ⊢
        have e : cur'.toList.take (Lib.compact zs).length = (cur'.toList.take n).take (Lib.compact zs).length := by rw [List.take_take, Nat.min_eq_left (by omega)]
        rw [e, htk', List.map_append, List.take_append_of_le_length (by simp), List.take_of_length_le (by simp)]
        rfl
    · have h3 := grownBy_sortedI (w := w) (g := g) (n := q) (os := #[]) (Lib.compact zs ++ List.replicate (n - (Lib.compact zs).length) 0).toArray
      rw [Sort.grow_empty] at h3
      exact h3
end Go.Proofs.YtlhogjigdmpokaaGreatDoor.vtc
namespace Go.Proofs.YtlhogjigdmpokaaGreatDoor.vtc
open Go.RowKit Go.Proofs.YtlhogjigdmpokaaGreatDoor.tlvc Go.Proofs.YtlhogjigdmpokaaGreatDoor.tmc
set_option linter.unusedVariables false
def InsPost (w : World) (zs : List Int) (e : Ending) (w' : World) : Prop := ∃ A c, e = .returned (.slice A zs.length c) ∧ Ins w' A zs.length zs ∧ (zs.length ≤ c ∧ c ≤ maxLen) ∧ Below w.heap.size w w'
theorem atF_no4 {b : List Int} {i : Nat} (h : b.getD i 0 ≠ 4) : atF b i = none := if_neg fun e => h e.2.1
theorem atF_no8 {b : List Int} {i : Nat} (h : b.getD (i + 1) 0 ≠ 8) : atF b i = none := if_neg fun e => h e.2.2
theorem atF_yes {b : List Int} {i : Nat} (h : i + 10 ≤ b.length) (h4 : b.getD i 0 = 4) (h8 : b.getD (i + 1) 0 = 8) : atF b i = numF ((b.drop (i + 2)).take 8) := if_pos ⟨h, h4, h8⟩
theorem found_none {b : List Int} {below : Int} {i : Nat} (h : atF b i = none) : foundF b below (i + 1) = foundF b below i := by
  conv => lhs; unfold foundF
  rw [h]
theorem found_over {b : List Int} {below : Int} {i : Nat} {m : Int} (h : atF b i = some m) (hm : ¬ m < below) : foundF b below (i + 1) = foundF b below i := by
  conv => lhs; unfold foundF
  rw [h]
  exact if_neg hm
theorem found_in {b : List Int} {below : Int} {i : Nat} {m : Int} (h : atF b i = some m) (hm : m < below) : foundF b below (i + 1) = foundF b below i ++ [m] := by
  conv => lhs; unfold foundF
  rw [h]
  exact if_pos hm
set_option maxRecDepth 100000 in
set_option maxHeartbeats 16000000 in
theorem mentions_any (A : Option Addr) (n c : Nat) (xs : List Int) (below : Int) (w : World) (hb : Bys w A n xs) (hc : n ≤ c) (hm : c ≤ maxLen) (hn : n ≤ 100000) :
    Calls Tryz.prog 34 #[.slice A n c, .int .i64 below] w (InsPost w (mentionsF xs below)) := by
  have hm9 : c ≤ 9223372036854775807 := by unfold maxLen at hm; omega
  have hlen := hb.len
  have HB := Lib.hid hb
  have HL := Lib.hid hlen
  clear hb hlen
  go_enter Tryz.func34, Tryz.ntmps34
  go_wp2_with fail
  go_loopg [5, 6, 7, 8] (n + 1) (fun gk s5 s6 s7 s8 wx => ∃ (i : Nat) (vk : Value), s5 = vk ∧ s6 = .int .i64 i ∧ i ≤ n ∧ n - i < gk ∧ (i ≤ n - 9) ∧ Hid (wx.ownsRow w.heap.size 3 1 vk (foundF xs below i).length (ivals (foundF xs below i)) ∧ Below w.heap.size w wx))
  case atStart => exact ⟨0, _, rfl, rfl, by omega, by omega, by omega, Lib.hid ⟨World.ownsRow_nil _ _ _ _, Below.refl _ _⟩⟩
  case round =>
    obtain ⟨i, vk, hvk, rfl, hi, hgk, hi9, HI⟩ := hrel
    obtain rfl := hvk.symm
    have hw10 : IntKind.i64.wrap ((i : Int) + 10) = (i : Int) + 10 := IntWalk.i64_in _ (by omega)
    have hw1 : IntKind.i64.wrap ((i : Int) + 1) = (i : Int) + 1 := IntWalk.i64_in _ (by omega)
    have hw2 : IntKind.i64.wrap ((i : Int) + 2) = (i : Int) + 2 := IntWalk.i64_in _ (by omega)
    by_cases hlt : i + 10 ≤ n
    · have hltz : (i : Int) + 10 ≤ (n : Int) := by omega
      obtain ⟨gk', rfl⟩ : ∃ g', gk = g' + 1 := ⟨gk - 1, by omega⟩
      have HN := Lib.hid (And.intro (show i + 1 ≤ n by omega) (And.intro (show n - (i + 1) < gk' by omega) (show i + 1 ≤ n - 9 by omega)))
      obtain ⟨b, off, rfl, hbl, hcell⟩ := HB.out.2.2 (by omega)
      have hbs := HB.out.below HI.out.2
      have e0 : wr.cell? ⟨b, off + i, none⟩ = some (.int .u8 (xs.getD i 0)) := (HI.out.2.cell (p := ⟨b, off + i, none⟩) hbl).trans (hcell i (by omega))
      have e1 : wr.cell? ⟨b, off + (i + 1), none⟩ = some (.int .u8 (xs.getD (i + 1) 0)) := (HI.out.2.cell (p := ⟨b, off + (i + 1), none⟩) hbl).trans (hcell (i + 1) (by omega))
      have b0 : (i : Int) < (n : Int) := by omega
      have b1 : (i : Int) + 1 < (n : Int) := by omega
      have b0n : i < n := by omega
      have b1n : i + 1 < n := by omega
      obtain ⟨x0, hx0⟩ : ∃ x, xs.getD i 0 = x := ⟨_, rfl⟩
      obtain ⟨x1, hx1⟩ : ∃ x, xs.getD (i + 1) 0 = x := ⟨_, rfl⟩
      rw [hx0] at e0
      rw [hx1] at e1
      have HBS := Lib.hid hbs
      clear hbs hcell hgk hi9
      by_cases h4 : x0 = 4
      · by_cases h8 : x1 = 8
        · subst h4 h8
          have hat := atF_yes (b := xs) (i := i) (by rw [HL.out]; exact hlt) hx0 hx1
          have hlo : (i : Int) + 2 ≤ (i : Int) + 10 := by omega
          have hhi : (i : Int) + 10 ≤ (c : Int) := by omega
          have hlon : i + 2 ≤ i + 10 := by omega
          have hhin : i + 10 ≤ c := by omega
          have hsub : Bys wr (some ⟨b, off + (i + 2), none⟩) 8 ((xs.drop (i + 2)).take 8) := by
            have h1 := (HBS.out.cut (k := i + 2) (cap := c) (by omega) hc).upto (k := 8) (by omega)
            rw [if_neg (by omega)] at h1
            simpa [Addr.add_lit] using h1
          have hnum := number_any _ 8 (c - (i + 2)) _ wr hsub (by omega) (by omega)
          rw [← hat] at hnum
          have hmb : ∀ m, atF xs i = some m → 0 ≤ m ∧ m < 281474976710656 := fun m h => atF_bd HB.out.2.1 h
          obtain ⟨r, hr⟩ : ∃ r, atF xs i = r := ⟨_, rfl⟩
          rw [hr] at hnum hmb
          have HNUM := Lib.hid hnum
          clear hsub hnum hat hx0 hx1
          cases r with
          | none =>
            have hf := found_none (below := below) hr
            have HI2 := HI.out
            rw [← hf] at HI2
            have HI3 := Lib.hid HI2
            clear hf HI2 HI hr hmb
            go_wp2_with (go_at_call 60; refine HNUM.out.mono ?_; rintro e w1 ⟨rfl, rfl⟩)
            go_wp2
            go_roundg gk'
            case measure => omega
            case rel => exact ⟨i + 1, vk, rfl, by go_num, HN.out.1, HN.out.2.1, HN.out.2.2, HI3⟩
          | some m =>
            by_cases hmb2 : m < below
            · have hf := found_in hr hmb2
              obtain ⟨v7, w7, hrun, g1, g2, _⟩ := app_int wr w.heap.size vk (foundF xs below i).length _ HI.out.1 m (by have := hmb m rfl; unfold I64; omega) (by have := foundF_len xs below i; omega) HI.out.2.size
              have hb7 := HI.out.2.trans (app_int_below HI.out.1 HI.out.2.size g2)
              have e2 : ivals (foundF xs below i) ++ ivals [m] = ivals (foundF xs below (i + 1)) := by rw [hf, ivals_append]
              have e3 : (foundF xs below i).length + 1 = (foundF xs below (i + 1)).length := by rw [hf, List.length_append]; rfl
              rw [e2, e3] at g1
              have HI3 := Lib.hid (And.intro g1 hb7)
              clear hf e2 e3 g1 g2 hb7 HI hr hmb
              go_wp2_with (first | (go_at_call 60; refine HNUM.out.mono ?_; rintro e w1 ⟨rfl, rfl⟩) | (at_builtin; refine wpl_append rfl (.tmp 45) (.tmp 47) 23 rfl _ _ _ rfl rfl hrun ?_))
              clear hrun
              go_wp2
              go_roundg gk'
              case measure => omega
              case rel => exact ⟨i + 1, v7, rfl, by go_num, HN.out.1, HN.out.2.1, HN.out.2.2, HI3⟩
            · have hf := found_over hr hmb2
              have HI2 := HI.out
              rw [← hf] at HI2
              have HI3 := Lib.hid HI2
              clear hf HI2 HI hr hmb
              go_wp2_with (go_at_call 60; refine HNUM.out.mono ?_; rintro e w1 ⟨rfl, rfl⟩)
              go_wp2
              go_roundg gk'
              case measure => omega
              case rel => exact ⟨i + 1, vk, rfl, by go_num, HN.out.1, HN.out.2.1, HN.out.2.2, HI3⟩
        · have hf := found_none (below := below) (atF_no8 (b := xs) (i := i) (by rw [hx1]; exact h8))
          have HI2 := HI.out
          rw [← hf] at HI2
          have HI3 := Lib.hid HI2
          subst h4
          clear hf HI2 hx0 hx1 HI
          go_wp2
          go_roundg gk'
          case measure => omega
          case rel => exact ⟨i + 1, vk, rfl, by go_num, HN.out.1, HN.out.2.1, HN.out.2.2, HI3⟩
      · have hf := found_none (below := below) (atF_no4 (b := xs) (i := i) (by rw [hx0]; exact h4))
        have HI2 := HI.out
        rw [← hf] at HI2
        have HI3 := Lib.hid HI2
        clear hf HI2 hx0 hx1 HI
        go_wp2
        go_roundg gk'
        case measure => omega
        case rel => exact ⟨i + 1, vk, rfl, by go_num, HN.out.1, HN.out.2.1, HN.out.2.2, HI3⟩
    · have hltz : ¬ (i : Int) + 10 ≤ (n : Int) := by omega
      have hi2 : i = xs.length - 9 := by rw [HL.out]; omega
      have hI := HI.out
      have hmen := mentions_found xs below
      rw [← hi2] at hmen
      have hfit := foundF_fit HB.out.2.1 below i
      have hll := foundF_len xs below i
      obtain ⟨zs, hzs⟩ : ∃ x, foundF xs below i = x := ⟨_, rfl⟩
      rw [hzs] at hI hmen hfit hll
      have hmf : Fit8 (Lib.compact (sortZ zs)) := fun x hx => hfit x (((compactZ zs).2 x).1 hx)
      obtain ⟨A6, c6, rfl, hl6, hm6, hA6⟩ := own_shape hI.1
      by_cases h0 : zs = []
      · subst h0
        have hM : mentionsF xs below = [] := by rw [← hmen]; exact List.eq_nil_iff_forall_not_mem.2 fun x hx => absurd (((compactZ []).2 x).1 hx) (by simp)
        have HM := Lib.hid hM
        have HE := Lib.hid hI.2
        have HS := Lib.hid fun W => (show Calls Tryz.prog 61 #[.slice A6 0 c6] W _ from Any.slices_Sort_int_none Tryz.lays189 A6 c6 W)
        have HC := Lib.hid fun W => (show Calls Tryz.prog 62 #[.slice A6 0 c6] W _ from Any.slices_Compact_int_empty Tryz.lays20 A6 c6 W)
        have HG := Lib.hid (And.intro hl6 hm6)
        have hz : ([] : List Int).length = 0 := rfl
        rw [hz]
        clear hz hI HI hmen hfit hll hmf hA6 hM hgk hi9 hl6 hm6 hi2 hzs
        go_wp2_with (first | (go_at_call 61; refine (HS.out _).mono ?_; rintro e w1 ⟨rfl, rfl⟩) | (go_at_call 62; refine (HC.out _).mono ?_; rintro e w2 ⟨rfl, rfl⟩))
        go_ret
        rw [HM.out]
        exact ⟨A6, c6, rfl, Ins.nil_ _ _, HG.out, HE.out⟩
      · have hpos : 0 < zs.length := List.length_pos_iff.2 h0
        obtain ⟨g, rfl, hg1, hg2⟩ := hA6 0 hpos
        have hsort := sort_own w.heap.size g zs.length c6 zs wr hI.1 (by omega)
        have hcomp := fun W hW => compact_own w.heap.size g zs.length c6 (sortZ zs) W hW (by omega)
        have HS := Lib.hid hsort
        have HC := Lib.hid hcomp
        have HE := Lib.hid hI
        have HG := Lib.hid (And.intro hg1 (And.intro hmf hmen))
        obtain ⟨l, hl⟩ : ∃ x, zs.length = x := ⟨_, rfl⟩
        rw [hl] at HS HC ⊢
        clear hI HI hmen hfit hll hmf hA6 hgk hi9 hl6 hm6 hsort hcomp hpos hg2 h0 hi2 hzs hl
        go_wp2_with (first | (go_at_call 61; refine HS.out.mono ?_; rintro e w1 ⟨rfl, hs1, hs2⟩) | (go_at_call 62; refine (HC.out _ hs1).mono ?_; rintro e w2 ⟨rfl, hs3, hs4⟩))
        go_ret
        have hsz := HE.out.2.size
        have hb2 : Below w.heap.size w w2 := (HE.out.2.grown hs2 hsz (fun j hj => by cases hj; exact HG.out.1)).grown hs4 (Nat.le_trans hsz hs2.size) (fun j hj => by cases hj; exact HG.out.1)
        obtain ⟨_, _, e9, hl9, hm9, _⟩ := own_shape hs3
        cases e9
        rw [← HG.out.2.2]
        exact ⟨_, c6, rfl, Ins.own hs3 HG.out.2.1, ⟨hl9, hm9⟩, hb2⟩
end Go.Proofs.YtlhogjigdmpokaaGreatDoor.vtc
