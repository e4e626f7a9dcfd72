/- Which of two rows of bytes stands behind the other: the library's word, and a string's. -/
import Derived.Test.YtlnclgpbobaedaaDoorKitB
import Derived.Test.YtlnclgpbobaedaaDoorProg
import Derived.Lib.BytesEntry
import Derived.Laws.Externs
import Derived.Lib.ValidAsc
import Derived.Lib.Walk
import Derived.RegionTactic
import Derived.Deep.QuietTactic
import GoSem.Extern.BytealgCompare
namespace Go.Proofs.YtlnclgpbobaedaaDoor.ndc
open Go.RowKit Go.Proofs.YtlnclgpbobaedaaDoor.tlvc
set_option linter.unusedVariables false
/-- Does the first stand behind the second, as texts of bytes? -/
def gt8 : List UInt8 → List UInt8 → Bool
  | [], _ => false
  | _ :: _, [] => true
  | a :: x, b :: y => if a = b then gt8 x y else decide (b < a)
theorem gt8_string : ∀ l m : List UInt8, (!(Op.bytesLess l m || l == m)) = gt8 l m
  | [], [] => by simp [Op.bytesLess, gt8]
  | [], _ :: _ => by simp [Op.bytesLess, gt8]
  | _ :: _, [] => by simp [Op.bytesLess, gt8]
  | a :: x, b :: y => by
    have ih := gt8_string x y
    unfold gt8 Op.bytesLess
    by_cases h : a = b
    · subst h
      rw [if_pos rfl, ← ih]
      have : ¬ a < a := by simp
      simp [this]
    · rw [if_neg h]
      have h2 : (a == b) = false := by simpa using h
      have h3 : (a :: x == b :: y) = false := by simp [h]
      rw [h2, h3]
      have hn : ¬ a.toNat = b.toNat := fun e => h (UInt8.toNat.inj e)
      simp only [Bool.false_and, Bool.or_false]
      rw [Bool.eq_iff_iff]
      simp [UInt8.lt_iff_toNat_lt]
      omega
theorem gt8_pre : ∀ (i : Nat) (l m : List UInt8), i < l.length → i < m.length → (∀ j, j < i → l.getD j 0 = m.getD j 0) → l.getD i 0 ≠ m.getD i 0 → gt8 l m = decide (m.getD i 0 < l.getD i 0)
  | _, [], _, h, _, _, _ => by simp at h
  | _, _ :: _, [], _, h, _, _ => by simp at h
  | 0, a :: x, b :: y, _, _, _, hne => by
    unfold gt8
    rw [if_neg (by simpa using hne)]
    simp
  | i + 1, a :: x, b :: y, h1, h2, he, hne => by
    unfold gt8
    have := he 0 (by omega)
    rw [if_pos (by simpa using this)]
    have ih := gt8_pre i x y (by simpa using h1) (by simpa using h2) (fun j hj => by simpa using he (j + 1) (by omega)) (by simpa using hne)
    rw [ih]; simp
theorem gt8_all : ∀ (l m : List UInt8), (∀ j, j < min l.length m.length → l.getD j 0 = m.getD j 0) → gt8 l m = decide (m.length < l.length)
  | [], m, _ => by unfold gt8; simp
  | _ :: _, [], _ => by unfold gt8; simp
  | a :: x, b :: y, h => by
    unfold gt8
    have h0 := h 0 (by simp)
    rw [if_pos (by simpa using h0)]
    rw [gt8_all x y fun j hj => by simpa using h (j + 1) (by simp at hj ⊢; omega)]
    simp
theorem find_range_none {n : Nat} {p : Nat → Bool} (h : (List.range n).find? p = none) : ∀ j, j < n → p j = false := fun j hj => by
  have := List.find?_eq_none.1 h j (List.mem_range.2 hj)
  simpa using this
theorem find_range_some : ∀ {n i : Nat} {p : Nat → Bool}, (List.range n).find? p = some i → i < n ∧ p i = true ∧ ∀ j, j < i → p j = false := fun {n i p} h => by
  rw [List.find?_range_eq_some] at h
  refine ⟨List.mem_range.1 h.2.1, h.1, fun j hj => by simpa using h.2.2 j hj⟩
theorem get_getD (A : ByteArray) (i : Nat) : A[i]! = A.data.toList.getD i 0 := by
  have hz : A.data.toList.length = A.size := Array.length_toList
  rw [List.getD_eq_getElem?_getD]
  by_cases h : i < A.size
  · rw [getElem!_pos A i h, List.getElem?_eq_getElem (by omega), Option.getD_some, Array.getElem_toList]
    rfl
  · rw [getElem!_neg A i h, List.getElem?_eq_none (by omega)]
    rfl
theorem cmp_gt (A B : ByteArray) : 0 < Extern.BytealgCompare.cmp A B ↔ gt8 A.data.toList B.data.toList = true := by
  have za : A.data.toList.length = A.size := Array.length_toList
  have zb : B.data.toList.length = B.size := Array.length_toList
  unfold Extern.BytealgCompare.cmp
  split
  · rename_i i h
    obtain ⟨h1, h2, h3⟩ := find_range_some h
    have hne : A.data.toList.getD i 0 ≠ B.data.toList.getD i 0 := by rw [← get_getD, ← get_getD]; simpa using h2
    rw [gt8_pre i _ _ (by omega) (by omega) (fun j hj => by rw [← get_getD, ← get_getD]; simpa using h3 j hj) hne, get_getD, get_getD]
    have hn : ¬ (A.data.toList.getD i 0).toNat = (B.data.toList.getD i 0).toNat := fun e => hne (UInt8.toNat.inj e)
    rw [decide_eq_true_iff]
    split
    · rename_i hl
      rw [UInt8.lt_iff_toNat_lt] at hl ⊢
      omega
    · rename_i hl
      rw [UInt8.lt_iff_toNat_lt] at hl ⊢
      omega
  · rename_i h
    have h2 := find_range_none h
    rw [gt8_all _ _ fun j hj => by have := h2 j (by omega); rw [← get_getD, ← get_getD]; simpa using this, za, zb, decide_eq_true_iff]
    split
    · omega
    · split <;> omega
theorem cmp_bd (A B : ByteArray) : Extern.BytealgCompare.cmp A B = -1 ∨ Extern.BytealgCompare.cmp A B = 0 ∨ Extern.BytealgCompare.cmp A B = 1 := by
  unfold Extern.BytealgCompare.cmp
  split
  · split <;> simp
  · split
    · simp
    · split <;> simp
theorem run_bytes {P : Program} {w : World} {A : Option Addr} {n : Nat} {xs : List Int} (h : Bys w A n xs) (c : Nat) : (Extern.Bytes.bytesOf (.slice A n c)).run P w = .ok (strOfNums xs) w := by
  rcases A with _ | ⟨b, off, sp⟩
  · have hn : n = 0 := by
      rcases Nat.eq_zero_or_pos n with h0 | h0
      · exact h0
      · obtain ⟨b, off, e, _⟩ := h.2.2 h0; cases e
    have hx : xs = [] := List.eq_nil_of_length_eq_zero (by rw [h.1, hn])
    subst hx
    rfl
  · have hl := Lib.run_loadBytesX (P := P) w xs ⟨b, off, sp⟩ .empty (fun j x hj => by
      have hjl : j < xs.length := (List.getElem?_eq_some_iff.1 hj).1
      obtain ⟨b', off', e, _, hc⟩ := h.2.2 (by rw [← h.1]; omega)
      cases e
      rw [Addr.add_lit, hc j (by rw [← h.1]; omega), List.getD_eq_getElem?_getD, hj]
      rfl)
    rw [h.1] at hl
    show (Extern.Bytes.loadBytes _ n .empty).run P w = _
    rw [hl]
    congr 1
    apply ByteArray.ext
    show (#[] : Array UInt8) ++ (Lib.bytesOf xs).toArray = _
    simp [strOfNums, Lib.bytesOf]
theorem run_compare {P : Program} {w : World} {A B : Option Addr} {n m : Nat} {xs ys : List Int} (h : Bys w A n xs) (k : Bys w B m ys) (c d : Nat) :
    (Extern.BytealgCompare.compare #[.slice A n c, .slice B m d]).run P w = .ok (.int .i64 (Extern.BytealgCompare.cmp (strOfNums xs) (strOfNums ys))) w := by
  change Sem.run P (do pure (goInt (Extern.BytealgCompare.cmp (← Extern.Bytes.bytesOf (.slice A n c)) (← Extern.Bytes.bytesOf (.slice B m d))))) w = _
  simp only [Sem.run_bind, Sem.run_pure, run_bytes h c, run_bytes k d, Result.andThen]
  rfl
/-- Does the first row of bytes stand behind the second? -/
def behind (xs ys : List Int) : Bool := gt8 (Lib.bytesOf xs) (Lib.bytesOf ys)
set_option maxRecDepth 100000 in
theorem compare_any (A B : Option Addr) (n c m d : Nat) (xs ys : List Int) (w : World) (hx : Bys w A n xs) (hy : Bys w B m ys) :
    Calls Tryd.prog 60 #[.slice A n c, .slice B m d] w fun e w' => (∃ r : Int, e = .returned (.int .i64 r) ∧ (-1 ≤ r ∧ r ≤ 1) ∧ decide (0 < r) = behind xs ys) ∧ w = w' := by
  have hrun : (callFunc 84 #[.slice A n c, .slice B m d]).run Tryd.prog w = .ok (.value (.int .i64 (Extern.BytealgCompare.cmp (strOfNums xs) (strOfNums ys)))) w := by
    rw [run_callFunc_extern Tryd.func84 (by kernel_rfl) (by kernel_rfl) (by kernel_rfl) (show Extern.find _ = some Extern.BytealgCompare.compare by kernel_rfl), run_compare hx hy]
    rfl
  have hg := cmp_gt (strOfNums xs) (strOfNums ys)
  have hb := cmp_bd (strOfNums xs) (strOfNums ys)
  obtain ⟨r, hr⟩ : ∃ r, Extern.BytealgCompare.cmp (strOfNums xs) (strOfNums ys) = r := ⟨_, rfl⟩
  rw [hr] at hrun hg hb
  have hfin : decide (0 < r) = behind xs ys := by rw [Bool.eq_iff_iff, decide_eq_true_iff, hg]; rfl
  have HF := Lib.hid hfin
  clear hg hr hfin
  go_enter Tryd.func60, Tryd.ntmps60
  go_wp2
  go_ret
  exact ⟨⟨r, rfl, by omega, HF.out⟩, rfl⟩
end Go.Proofs.YtlnclgpbobaedaaDoor.ndc
