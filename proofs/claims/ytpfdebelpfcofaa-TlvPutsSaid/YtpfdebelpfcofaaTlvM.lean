/- What the laws of warderlaw01 share: Put's ways by the tag and the body; what its bytes are. -/
import Derived.Test.YtpfdebelpfcofaaTlvJ
import Derived.Test.YtpfdebelpfcofaaTlvL
namespace Go.Proofs.Ytpfdebelpfcofaa.tlvc
open Go.RowKit
set_option linter.unusedVariables false

theorem Bys.drewN {w : World} {A : Option Addr} {n : Nat} {xs : List Int} (h : Bys w A n xs) (q : Nat) : Bys (w.drewN q) A n xs := h

/-- string(b), whatever has been drawn. -/
theorem str_all {w : World} {A : Option Addr} {n : Nat} {xs : List Int} (h : Bys w A n xs) (c : Nat) :
    ∀ q, (convert 22 9 (.slice A n c)).run Try.prog (w.drewN q) = .ok (.string (strOfNums xs)) (w.drewN q) :=
  fun q => run_str (P := Try.prog) 22 5 Try.underlying22 Try.underlying5 A n c xs (h.drewN q) 9 Try.underlying9
theorem str_now {w : World} {A : Option Addr} {n : Nat} {xs : List Int} (h : Bys w A n xs) (c : Nat) :
    (convert 22 9 (.slice A n c)).run Try.prog w = .ok (.string (strOfNums xs)) w :=
  run_str (P := Try.prog) 22 5 Try.underlying22 Try.underlying5 A n c xs h 9 Try.underlying9

theorem hdr_n (n : Nat) (h : n ≤ 65535) : ((hdr n).length = 1 ∧ n < 128) ∨ ((hdr n).length = 2 ∧ 128 ≤ n ∧ n ≤ 255) ∨ ((hdr n).length = 3 ∧ 256 ≤ n) := by
  rw [hdr_length]
  split
  · exact .inl ⟨rfl, by omega⟩
  · split
    · exact .inr (.inl ⟨rfl, by omega, by omega⟩)
    · exact .inr (.inr ⟨rfl, by omega⟩)

theorem put_drop (t : Int) (xs : List Int) (k : Nat) (h : k = 1 + (hdr xs.length).length) : (putBytes t xs).drop k = xs := by
  have e : putBytes t xs = ([t] ++ hdr xs.length) ++ xs := rfl
  rw [e]
  exact List.drop_left' (by simp; omega)
theorem put_zero (t : Int) (xs : List Int) : (putBytes t xs).getD 0 0 = t := by simp [putBytes]

theorem bys_cell0 {w : World} {g n : Nat} {ys : List Int} (h : Bys w (some ⟨g, 0, none⟩) n ys) (j : Nat) (hj : j < n) : w.cell? ⟨g, j, none⟩ = some (.int .u8 (ys.getD j 0)) := bys_cell h j hj (by omega)

theorem own_cap {w : World} {base : Nat} {e : TypeId} {A : Option Addr} {n c m : Nat} {xs : List Value} (h : w.ownsRow base e 1 (.slice A n c) m xs) : n ≤ c := by
  rcases h.2 with ⟨h, _⟩ | ⟨g, cap, cur, h, _, _, hc, _⟩
  · simp only [Value.slice.injEq] at h; omega
  · simp only [Value.slice.injEq] at h; omega

theorem own_max {w : World} {base : Nat} {e : TypeId} {A : Option Addr} {n c m : Nat} {xs : List Value} (h : w.ownsRow base e 1 (.slice A n c) m xs) : c ≤ maxLen := by
  rcases h.2 with ⟨h, _⟩ | ⟨g, cap, cur, h, _, _, _, hc, _⟩
  · simp only [Value.slice.injEq] at h
    rw [h.2.2]; exact Nat.zero_le _
  · simp only [Value.slice.injEq] at h
    rw [h.2.2]; exact hc

theorem own_shape {w : World} {base : Nat} {e : TypeId} {v : Value} {n : Nat} {xs : List Value} (h : w.ownsRow base e 1 v n xs) : ∃ A c, v = .slice A n c ∧ n ≤ c ∧ c ≤ maxLen ∧ ∀ k, k < n → ∃ g, A = some ⟨g, 0, none⟩ ∧ base ≤ g ∧ g < w.heap.size := by
  rcases h.2 with ⟨rfl, rfl⟩ | ⟨g, cap, cur, rfl, hg, hh, hn, hc, _⟩
  · exact ⟨none, 0, rfl, Nat.le_refl _, Nat.zero_le _, fun k hk => absurd hk (by omega)⟩
  · exact ⟨_, cap, rfl, hn, hc, fun _ _ => ⟨g, rfl, hg, (Array.getElem?_eq_some_iff.1 hh).1⟩⟩

/-- Bytes that lie in other blocks are kept. -/
theorem Bys.kept {w w' : World} {A : Option Addr} {n : Nat} {xs : List Int} {row : Option Nat} (h : Bys w A n xs) (hg : w.grownBy w' row) (hne : ∀ b off, A = some ⟨b, off, none⟩ → some b ≠ row) : Bys w' A n xs :=
  ⟨h.1, h.2.1, fun hn => by
    obtain ⟨b, off, e, hb, hc⟩ := h.2.2 hn
    exact ⟨b, off, e, Nat.lt_of_lt_of_le hb hg.size, fun j hj => (World.cell?_of_block (hg.block b hb (hne b off e))).trans (hc j hj)⟩⟩

theorem grown_trans {a b c : World} {row : Option Nat} (h : a.grownBy b row) (k : b.grownBy c row) : a.grownBy c row :=
  ⟨k.os.trans h.os, k.tape.trans h.tape, k.output.trans h.output, Nat.le_trans h.size k.size, fun i hi hne => (k.block i (Nat.lt_of_lt_of_le hi h.size) hne).trans (h.block i hi hne)⟩
theorem grown_of_below {a b : World} (h : Below a.heap.size a b) (row : Option Nat) : a.grownBy b row := ⟨h.os, h.tape, h.output, h.size, fun i hi _ => h.block i hi⟩
theorem own_below {w w' : World} {base : Nat} {e : TypeId} {size : Nat} {v : Value} {n : Nat} {xs : List Value} (h : w.ownsRow base e size v n xs) (hb : Below w.heap.size w w') : w'.ownsRow base e size v n xs :=
  h.kept (grown_of_below hb none) (by cases hv : v.ownBlock <;> simp)
theorem grown_drewN {a b : World} {row : Option Nat} (h : a.grownBy b row) (q : Nat) : a.grownBy (b.drewN q) row := ⟨h.os, h.tape, h.output, h.size, h.block⟩

/-- Behind the tag and the length stands the body. -/
theorem bys_tail {w : World} {g n k : Nat} {t : Int} {xs : List Int} (h : Bys w (some ⟨g, 0, none⟩) n (putBytes t xs)) (hk : k = 1 + (hdr xs.length).length) : Bys w (some ⟨g, k, none⟩) xs.length xs := by
  have hl := put_len t xs
  have hn := h.len
  refine ⟨rfl, ?_, fun hp => ?_⟩
  · have := h.fit.drop k
    rwa [put_drop t xs k hk] at this
  · obtain ⟨b, off, hA, hb, hc⟩ := h.2.2 (by omega)
    cases hA
    refine ⟨g, k, rfl, hb, fun j hj => ?_⟩
    have := hc (k + j) (by omega)
    rw [Nat.zero_add] at this
    have e : xs.getD j 0 = ((putBytes t xs).drop k).getD j 0 := by rw [put_drop t xs k hk]
    rw [this, e]
    simp [List.getD_eq_getElem?_getD, List.getElem?_drop]

/-- What Put answers: the bytes and the error. -/
def putF (t : Int) (xs : List Int) : List Int × Int := if endlessB t = true then ([], 11) else if 65535 < xs.length then ([], 2) else (putBytes t xs, 0)

def PutAll (w : World) (ys : List Int) (er : Int) (e : Ending) (w' : World) : Prop :=
  ∃ A c, e = .returned (.tuple #[.slice A ys.length c, .int .i64 er]) ∧ Bys w' A ys.length ys ∧ ys.length ≤ c ∧ (∀ b off, A = some ⟨b, off, none⟩ → w.heap.size ≤ b) ∧ Below w.heap.size w w'

theorem putAll_none (w : World) (n : Int) : PutAll w [] n (.returned (.tuple #[.slice none 0 0, .int .i64 n])) w :=
  ⟨none, 0, rfl, Bys.nil_ _ _, Nat.le_refl _, (fun _ _ h => by cases h), Below.refl _ _⟩
theorem putAll_ok {w w' : World} {ys : List Int} {e : Ending} (h : PutPost w ys e w') : PutAll w ys 0 e w' := by
  obtain ⟨g, cap, rfl, hown, hb, hbel⟩ := h
  refine ⟨_, cap, rfl, hb, own_cap hown, (fun b off h => ?_), hbel⟩
  cases h
  exact (hown.lt g rfl).1

theorem put_all (t : Int) (A : Option Addr) (n c : Nat) (xs : List Int) (w : World) (ht : 0 ≤ t ∧ t ≤ 255) (hb : Bys w A n xs) :
    Calls Try.prog 10 #[.int .u8 t, .slice A n c] w (PutAll w (putF t xs).1 (putF t xs).2) := by
  have hl := hb.len
  unfold putF
  by_cases h : endlessB t = true
  · rw [if_pos h]
    refine (put_tag t A n c w h).mono ?_
    rintro e w' ⟨rfl, rfl⟩
    exact putAll_none w 11
  · have h' : endlessB t = false := by simpa using h
    rw [if_neg h]
    by_cases hn : 65535 < n
    · rw [if_pos (by omega)]
      refine (put_many t A n c w h' hn).mono ?_
      rintro e w' ⟨rfl, rfl⟩
      exact putAll_none w 2
    · rw [if_neg (by omega)]
      exact (put_ok t A n c xs w h' ht.1 ht.2 (by omega) hb).mono fun _ _ h => putAll_ok h

theorem refPut_all (t : Int) (A : Option Addr) (n c : Nat) (xs : List Int) (w : World) (ht : 0 ≤ t ∧ t ≤ 255) (hb : Bys w A n xs) :
    Calls Try.prog 11 #[.int .u8 t, .slice A n c] w (PutAll w (putF t xs).1 (putF t xs).2) := by
  have hl := hb.len
  unfold putF
  by_cases h : endlessB t = true
  · rw [if_pos h]
    refine (refPut_tag t A n c w h ht.1 ht.2).mono ?_
    rintro e w' ⟨rfl, rfl⟩
    exact putAll_none w 11
  · have h' : endlessB t = false := by simpa using h
    rw [if_neg h]
    by_cases hn : 65535 < n
    · rw [if_pos (by omega)]
      refine (refPut_many t A n c w h' ht.1 ht.2 hn).mono ?_
      rintro e w' ⟨rfl, rfl⟩
      exact putAll_none w 2
    · rw [if_neg (by omega)]
      exact (refPut_ok t A n c xs w h' ht.1 ht.2 (by omega) hb).mono fun _ _ h => putAll_ok h
end Go.Proofs.Ytpfdebelpfcofaa.tlvc
