/- Which of two rows of bytes stands behind the other: the library's word, and a string's. Which of two terms stands ahead: plain. How many parts a term has, up to a bound. Order: the program's. slices.CompareFunc at terms, by Order. Order at any two terms. -/
import Derived.Test.YtlhogjigdmpokaaGreatDoorTa
import Derived.Test.YtlhogjigdmpokaaGreatDoorProg
import Derived.Lib.BytesEntry
import Derived.Laws.Externs
import Derived.Lib.ValidAsc
import Derived.Lib.Walk
import Derived.RegionTactic
import Derived.Deep.QuietTactic
import GoSem.Extern.BytealgCompare
import Derived.Deep.LoopGhost
import Derived.StillTailTactics
import Derived.Deep.Heap
import Derived.Shelf.Abstract
import Derived.Lib.Builder
namespace Go.Proofs.YtlhogjigdmpokaaGreatDoor.ndc
open Go.RowKit Go.Proofs.YtlhogjigdmpokaaGreatDoor.tlvc
set_option linter.unusedVariables false
/-- Does the first stand behind the second, as texts of bytes? -/
def gt8 : List UInt8 → List UInt8 → Bool
  | [], _ => false
  | _ :: _, [] => true
  | a :: x, b :: y => if a = b then gt8 x y else decide (b < a)
theorem gt8_string : ∀ l m : List UInt8, (!(Op.bytesLess l m || l == m)) = gt8 l m
  | [], [] => by simp [Op.bytesLess, gt8]
  | [], _ :: _ => by simp [Op.bytesLess, gt8]
  | _ :: _, [] => by simp [Op.bytesLess, gt8]
  | a :: x, b :: y => by
    have ih := gt8_string x y
    unfold gt8 Op.bytesLess
    by_cases h : a = b
    · subst h
      rw [if_pos rfl, ← ih]
      have : ¬ a < a := by simp
      simp [this]
    · rw [if_neg h]
      have h2 : (a == b) = false := by simpa using h
      have h3 : (a :: x == b :: y) = false := by simp [h]
      rw [h2, h3]
      have hn : ¬ a.toNat = b.toNat := fun e => h (UInt8.toNat.inj e)
      simp only [Bool.false_and, Bool.or_false]
      rw [Bool.eq_iff_iff]
      simp [UInt8.lt_iff_toNat_lt]
      omega
theorem gt8_pre : ∀ (i : Nat) (l m : List UInt8), i < l.length → i < m.length → (∀ j, j < i → l.getD j 0 = m.getD j 0) → l.getD i 0 ≠ m.getD i 0 → gt8 l m = decide (m.getD i 0 < l.getD i 0)
  | _, [], _, h, _, _, _ => by simp at h
  | _, _ :: _, [], _, h, _, _ => by simp at h
  | 0, a :: x, b :: y, _, _, _, hne => by
    unfold gt8
    rw [if_neg (by simpa using hne)]
    simp
  | i + 1, a :: x, b :: y, h1, h2, he, hne => by
    unfold gt8
    have := he 0 (by omega)
    rw [if_pos (by simpa using this)]
    have ih := gt8_pre i x y (by simpa using h1) (by simpa using h2) (fun j hj => by simpa using he (j + 1) (by omega)) (by simpa using hne)
    rw [ih]; simp
theorem gt8_all : ∀ (l m : List UInt8), (∀ j, j < min l.length m.length → l.getD j 0 = m.getD j 0) → gt8 l m = decide (m.length < l.length)
  | [], m, _ => by unfold gt8; simp
  | _ :: _, [], _ => by unfold gt8; simp
  | a :: x, b :: y, h => by
    unfold gt8
    have h0 := h 0 (by simp)
    rw [if_pos (by simpa using h0)]
    rw [gt8_all x y fun j hj => by simpa using h (j + 1) (by simp at hj ⊢; omega)]
    simp
theorem find_range_none {n : Nat} {p : Nat → Bool} (h : (List.range n).find? p = none) : ∀ j, j < n → p j = false := fun j hj => by
  have := List.find?_eq_none.1 h j (List.mem_range.2 hj)
  simpa using this
theorem find_range_some : ∀ {n i : Nat} {p : Nat → Bool}, (List.range n).find? p = some i → i < n ∧ p i = true ∧ ∀ j, j < i → p j = false := fun {n i p} h => by
  rw [List.find?_range_eq_some] at h
  refine ⟨List.mem_range.1 h.2.1, h.1, fun j hj => by simpa using h.2.2 j hj⟩
theorem get_getD (A : ByteArray) (i : Nat) : A[i]! = A.data.toList.getD i 0 := by
  have hz : A.data.toList.length = A.size := Array.length_toList
  rw [List.getD_eq_getElem?_getD]
  by_cases h : i < A.size
  · rw [getElem!_pos A i h, List.getElem?_eq_getElem (by omega), Option.getD_some, Array.getElem_toList]
    rfl
  · rw [getElem!_neg A i h, List.getElem?_eq_none (by omega)]
    rfl
theorem cmp_gt (A B : ByteArray) : 0 < Extern.BytealgCompare.cmp A B ↔ gt8 A.data.toList B.data.toList = true := by
  have za : A.data.toList.length = A.size := Array.length_toList
  have zb : B.data.toList.length = B.size := Array.length_toList
  unfold Extern.BytealgCompare.cmp
  split
  · rename_i i h
    obtain ⟨h1, h2, h3⟩ := find_range_some h
    have hne : A.data.toList.getD i 0 ≠ B.data.toList.getD i 0 := by rw [← get_getD, ← get_getD]; simpa using h2
    rw [gt8_pre i _ _ (by omega) (by omega) (fun j hj => by rw [← get_getD, ← get_getD]; simpa using h3 j hj) hne, get_getD, get_getD]
    have hn : ¬ (A.data.toList.getD i 0).toNat = (B.data.toList.getD i 0).toNat := fun e => hne (UInt8.toNat.inj e)
    rw [decide_eq_true_iff]
    split
    · rename_i hl
      rw [UInt8.lt_iff_toNat_lt] at hl ⊢
      omega
    · rename_i hl
      rw [UInt8.lt_iff_toNat_lt] at hl ⊢
      omega
  · rename_i h
    have h2 := find_range_none h
    rw [gt8_all _ _ fun j hj => by have := h2 j (by omega); rw [← get_getD, ← get_getD]; simpa using this, za, zb, decide_eq_true_iff]
    split
    · omega
    · split <;> omega
theorem cmp_bd (A B : ByteArray) : Extern.BytealgCompare.cmp A B = -1 ∨ Extern.BytealgCompare.cmp A B = 0 ∨ Extern.BytealgCompare.cmp A B = 1 := by
  unfold Extern.BytealgCompare.cmp
  split
  · split <;> simp
  · split
    · simp
    · split <;> simp
theorem run_bytes {P : Program} {w : World} {A : Option Addr} {n : Nat} {xs : List Int} (h : Bys w A n xs) (c : Nat) : (Extern.Bytes.bytesOf (.slice A n c)).run P w = .ok (strOfNums xs) w := by
  rcases A with _ | ⟨b, off, sp⟩
  · have hn : n = 0 := by
      rcases Nat.eq_zero_or_pos n with h0 | h0
      · exact h0
      · obtain ⟨b, off, e, _⟩ := h.2.2 h0; cases e
    have hx : xs = [] := List.eq_nil_of_length_eq_zero (by rw [h.1, hn])
    subst hx
    rfl
  · have hl := Lib.run_loadBytesX (P := P) w xs ⟨b, off, sp⟩ .empty (fun j x hj => by
      have hjl : j < xs.length := (List.getElem?_eq_some_iff.1 hj).1
      obtain ⟨b', off', e, _, hc⟩ := h.2.2 (by rw [← h.1]; omega)
      cases e
      rw [Addr.add_lit, hc j (by rw [← h.1]; omega), List.getD_eq_getElem?_getD, hj]
      rfl)
    rw [h.1] at hl
    show (Extern.Bytes.loadBytes _ n .empty).run P w = _
    rw [hl]
    congr 1
    apply ByteArray.ext
    show (#[] : Array UInt8) ++ (Lib.bytesOf xs).toArray = _
    simp [strOfNums, Lib.bytesOf]
theorem run_compare {P : Program} {w : World} {A B : Option Addr} {n m : Nat} {xs ys : List Int} (h : Bys w A n xs) (k : Bys w B m ys) (c d : Nat) :
    (Extern.BytealgCompare.compare #[.slice A n c, .slice B m d]).run P w = .ok (.int .i64 (Extern.BytealgCompare.cmp (strOfNums xs) (strOfNums ys))) w := by
  change Sem.run P (do pure (goInt (Extern.BytealgCompare.cmp (← Extern.Bytes.bytesOf (.slice A n c)) (← Extern.Bytes.bytesOf (.slice B m d))))) w = _
  simp only [Sem.run_bind, Sem.run_pure, run_bytes h c, run_bytes k d, Result.andThen]
  rfl
/-- Does the first row of bytes stand behind the second? -/
def behind (xs ys : List Int) : Bool := gt8 (Lib.bytesOf xs) (Lib.bytesOf ys)
set_option maxRecDepth 100000 in
theorem compare_any (A B : Option Addr) (n c m d : Nat) (xs ys : List Int) (w : World) (hx : Bys w A n xs) (hy : Bys w B m ys) :
    Calls Tryz.prog 91 #[.slice A n c, .slice B m d] w fun e w' => (∃ r : Int, e = .returned (.int .i64 r) ∧ (-1 ≤ r ∧ r ≤ 1) ∧ decide (0 < r) = behind xs ys) ∧ w = w' := by
  have hrun : (callFunc 117 #[.slice A n c, .slice B m d]).run Tryz.prog w = .ok (.value (.int .i64 (Extern.BytealgCompare.cmp (strOfNums xs) (strOfNums ys)))) w := by
    rw [run_callFunc_extern Tryz.func117 (by kernel_rfl) (by kernel_rfl) (by kernel_rfl) (show Extern.find _ = some Extern.BytealgCompare.compare by kernel_rfl), run_compare hx hy]
    rfl
  have hg := cmp_gt (strOfNums xs) (strOfNums ys)
  have hb := cmp_bd (strOfNums xs) (strOfNums ys)
  obtain ⟨r, hr⟩ : ∃ r, Extern.BytealgCompare.cmp (strOfNums xs) (strOfNums ys) = r := ⟨_, rfl⟩
  rw [hr] at hrun hg hb
  have hfin : decide (0 < r) = behind xs ys := by rw [Bool.eq_iff_iff, decide_eq_true_iff, hg]; rfl
  have HF := Lib.hid hfin
  clear hg hr hfin
  go_enter Tryz.func91, Tryz.ntmps91
  go_wp2
  go_ret
  exact ⟨⟨r, rfl, by omega, HF.out⟩, rfl⟩
end Go.Proofs.YtlhogjigdmpokaaGreatDoor.ndc
namespace Go.Proofs.YtlhogjigdmpokaaGreatDoor.tmc
open Go.RowKit Go.Proofs.YtlhogjigdmpokaaGreatDoor.tlvc
set_option linter.unusedVariables false
/-- Of two numbers. -/
def cmpI (a b : Int) : Int := if a < b then -1 else if b < a then 1 else 0
/-- Of two rows of bytes. -/
def cmpL : List Int → List Int → Int
  | [], [] => 0
  | [], _ :: _ => -1
  | _ :: _, [] => 1
  | a :: x, b :: y => if a = b then cmpL x y else cmpI a b
/-- The first that is not 0. -/
def or0 (a b : Int) : Int := if a = 0 then b else a
mutual
def ordT : Tm → Tm → Int
  | .mk o m d ks, t => or0 (cmpI o t.op) (or0 (cmpI m t.num) (or0 (cmpL d t.data) (ordL ks t.kids)))
def ordL : List Tm → List Tm → Int
  | [], l => if l.length = 0 then 0 else -1
  | k :: ks, l => match l with
    | [] => 1
    | m :: ms => or0 (ordT k m) (ordL ks ms)
end
def Sg (r : Int) : Prop := r = -1 ∨ r = 0 ∨ r = 1
theorem cmpI_sg (a b : Int) : Sg (cmpI a b) := by unfold Sg cmpI; split <;> (try split) <;> omega
theorem or0_sg {a b : Int} (h : Sg a) (k : Sg b) : Sg (or0 a b) := by unfold or0; split <;> assumption
theorem cmpL_sg : ∀ x y : List Int, Sg (cmpL x y)
  | [], [] => by unfold cmpL Sg; omega
  | [], _ :: _ => by unfold cmpL Sg; omega
  | _ :: _, [] => by unfold cmpL Sg; omega
  | a :: x, b :: y => by
    unfold cmpL
    split
    · exact cmpL_sg x y
    · exact cmpI_sg a b
mutual
theorem ordT_sg : ∀ t u : Tm, Sg (ordT t u)
  | .mk o m d ks, u => by unfold ordT; exact or0_sg (cmpI_sg _ _) (or0_sg (cmpI_sg _ _) (or0_sg (cmpL_sg _ _) (ordL_sg ks u.kids)))
theorem ordL_sg : ∀ ks l : List Tm, Sg (ordL ks l)
  | [], l => by unfold ordL Sg; split <;> omega
  | k :: ks, [] => by unfold ordL Sg; simp
  | k :: ks, m :: ms => by unfold ordL; exact or0_sg (ordT_sg k m) (ordL_sg ks ms)
end
theorem ordL_nil (l : List Tm) : ordL [] l = if l.length = 0 then 0 else -1 := by unfold ordL; rfl
theorem ordL_end (k : Tm) (ks : List Tm) : ordL (k :: ks) [] = 1 := by unfold ordL; rfl
theorem ordL_cons (k m : Tm) (ks ms : List Tm) : ordL (k :: ks) (m :: ms) = or0 (ordT k m) (ordL ks ms) := by conv => lhs; unfold ordL
/-! ### The library's word on bytes -/
def cmp8 : List UInt8 → List UInt8 → Int
  | [], [] => 0
  | [], _ :: _ => -1
  | _ :: _, [] => 1
  | a :: x, b :: y => if a = b then cmp8 x y else if a < b then -1 else 1
theorem cmp8_pre : ∀ (i : Nat) (l m : List UInt8), i < l.length → i < m.length → (∀ j, j < i → l.getD j 0 = m.getD j 0) → l.getD i 0 ≠ m.getD i 0 → cmp8 l m = if l.getD i 0 < m.getD i 0 then -1 else 1
  | _, [], _, h, _, _, _ => by simp at h
  | _, _ :: _, [], _, h, _, _ => by simp at h
  | 0, a :: x, b :: y, _, _, _, hne => by
    unfold cmp8
    rw [if_neg (by simpa using hne)]
    simp
  | i + 1, a :: x, b :: y, h1, h2, he, hne => by
    unfold cmp8
    have := he 0 (by omega)
    rw [if_pos (by simpa using this)]
    have ih := cmp8_pre i x y (by simpa using h1) (by simpa using h2) (fun j hj => by simpa using he (j + 1) (by omega)) (by simpa using hne)
    rw [ih]; simp
theorem cmp8_all : ∀ (l m : List UInt8), (∀ j, j < min l.length m.length → l.getD j 0 = m.getD j 0) → cmp8 l m = if l.length < m.length then -1 else if m.length < l.length then 1 else 0
  | [], [], _ => by unfold cmp8; simp
  | [], _ :: _, _ => by unfold cmp8; simp
  | _ :: _, [], _ => by unfold cmp8; simp
  | a :: x, b :: y, h => by
    unfold cmp8
    have h0 := h 0 (by simp)
    rw [if_pos (by simpa using h0)]
    rw [cmp8_all x y fun j hj => by simpa using h (j + 1) (by simp at hj ⊢; omega)]
    simp
theorem cmp_eq (A B : ByteArray) : Extern.BytealgCompare.cmp A B = cmp8 A.data.toList B.data.toList := by
  have za : A.data.toList.length = A.size := Array.length_toList
  have zb : B.data.toList.length = B.size := Array.length_toList
  unfold Extern.BytealgCompare.cmp
  split
  · rename_i i h
    obtain ⟨h1, h2, h3⟩ := ndc.find_range_some h
    have hne : A.data.toList.getD i 0 ≠ B.data.toList.getD i 0 := by rw [← ndc.get_getD, ← ndc.get_getD]; simpa using h2
    rw [cmp8_pre i _ _ (by omega) (by omega) (fun j hj => by rw [← ndc.get_getD, ← ndc.get_getD]; simpa using h3 j hj) hne, ndc.get_getD, ndc.get_getD]
  · rename_i h
    have h2 := ndc.find_range_none h
    rw [cmp8_all _ _ fun j hj => by have := h2 j (by omega); rw [← ndc.get_getD, ← ndc.get_getD]; simpa using this, za, zb]
theorem cmp8_num {x y : Int} (hx : 0 ≤ x ∧ x ≤ 255) (hy : 0 ≤ y ∧ y ≤ 255) : (UInt8.ofNat x.toNat = UInt8.ofNat y.toNat ↔ x = y) ∧ (UInt8.ofNat x.toNat < UInt8.ofNat y.toNat ↔ x < y) := by
  constructor
  · constructor
    · intro h
      have := congrArg UInt8.toNat h
      simp [UInt8.toNat_ofNat'] at this
      omega
    · intro h; rw [h]
  · rw [UInt8.lt_iff_toNat_lt]
    simp [UInt8.toNat_ofNat']
    omega
theorem cmp8_L : ∀ (xs ys : List Int), Fit xs → Fit ys → cmp8 (Lib.bytesOf xs) (Lib.bytesOf ys) = cmpL xs ys
  | [], [], _, _ => rfl
  | [], _ :: _, _, _ => rfl
  | _ :: _, [], _, _ => rfl
  | a :: x, b :: y, h, k => by
    have ih := cmp8_L x y (fun z hz => h z (List.mem_cons_of_mem _ hz)) (fun z hz => k z (List.mem_cons_of_mem _ hz))
    have ha := h a (by simp)
    have hb := k b (by simp)
    obtain ⟨n1, n2⟩ := cmp8_num ha hb
    show cmp8 (UInt8.ofNat a.toNat :: Lib.bytesOf x) (UInt8.ofNat b.toNat :: Lib.bytesOf y) = _
    unfold cmp8 cmpL
    rw [ih]
    by_cases e : a = b
    · rw [if_pos (n1.2 e), if_pos e]
    · rw [if_neg (fun h => e (n1.1 h)), if_neg e]
      unfold cmpI
      by_cases l : a < b
      · rw [if_pos (n2.2 l), if_pos l]
      · rw [if_neg (fun h => l (n2.1 h)), if_neg l, if_pos (by omega)]
theorem less_8 : ∀ l m : List UInt8, Op.bytesLess l m = decide (cmp8 l m = -1)
  | [], [] => by simp [Op.bytesLess, cmp8]
  | [], _ :: _ => by simp [Op.bytesLess, cmp8]
  | _ :: _, [] => by simp [Op.bytesLess, cmp8]
  | a :: x, b :: y => by
    have ih := less_8 x y
    unfold cmp8 Op.bytesLess
    by_cases h : a = b
    · subst h
      rw [if_pos rfl, ih]
      have : ¬ a < a := by simp
      simp [this]
    · rw [if_neg h]
      have h2 : (a == b) = false := by simpa using h
      rw [h2]
      by_cases l : a < b
      · simp [l]
      · simp [l]
theorem cmpI_swap (a b : Int) : cmpI b a = - cmpI a b := by unfold cmpI; split <;> (try split) <;> (try split) <;> omega
theorem cmpL_swap : ∀ x y : List Int, cmpL y x = - cmpL x y
  | [], [] => rfl
  | [], _ :: _ => rfl
  | _ :: _, [] => rfl
  | a :: x, b :: y => by
    unfold cmpL
    by_cases h : a = b
    · rw [if_pos h, if_pos h.symm]; exact cmpL_swap x y
    · rw [if_neg h, if_neg (fun e => h e.symm)]; exact cmpI_swap a b
theorem str_less {xs ys : List Int} (h : Fit xs) (k : Fit ys) : Op.bytesLess (strOfNums xs).toList (strOfNums ys).toList = decide (cmpL xs ys = -1) := by
  rw [Lib.strOfNums_toList, Lib.strOfNums_toList, less_8, cmp8_L xs ys h k]
theorem cmp_L {xs ys : List Int} (h : Fit xs) (k : Fit ys) : Extern.BytealgCompare.cmp (strOfNums xs) (strOfNums ys) = cmpL xs ys := by
  rw [cmp_eq]
  exact cmp8_L xs ys h k
theorem or0_swap (a b : Int) : or0 (-a) (-b) = - or0 a b := by unfold or0; split <;> split <;> omega
mutual
theorem ordT_swap : ∀ t u : Tm, ordT u t = - ordT t u
  | .mk o m d ks, .mk o' m' d' ks' => by
    unfold ordT
    simp only [Tm.op, Tm.num, Tm.data, Tm.kids]
    rw [cmpI_swap o o', cmpI_swap m m', cmpL_swap d d', ordL_swap ks ks', or0_swap, or0_swap, or0_swap]
theorem ordL_swap : ∀ ks l : List Tm, ordL l ks = - ordL ks l
  | [], [] => by unfold ordL; simp
  | [], _ :: _ => by rw [ordL_end, ordL_nil]; simp
  | _ :: _, [] => by rw [ordL_end, ordL_nil]; simp
  | k :: ks, m :: ms => by
    rw [ordL_cons, ordL_cons, ordT_swap k m, ordL_swap ks ms, or0_swap]
end
/-! ### Alike is alike -/
theorem cmpI_zero {a b : Int} : cmpI a b = 0 ↔ a = b := by unfold cmpI; split <;> (try split) <;> omega
theorem or0_zero {a b : Int} : or0 a b = 0 ↔ a = 0 ∧ b = 0 := by
  unfold or0
  split
  · rename_i h; simp [h]
  · rename_i h; simp [h]
theorem cmpL_zero : ∀ {x y : List Int}, cmpL x y = 0 ↔ x = y
  | [], [] => by simp [cmpL]
  | [], _ :: _ => by simp [cmpL]
  | _ :: _, [] => by simp [cmpL]
  | a :: x, b :: y => by
    unfold cmpL
    by_cases h : a = b
    · rw [if_pos h, cmpL_zero]; simp [h]
    · rw [if_neg h, cmpI_zero]; simp [h]
mutual
theorem ordT_zero : ∀ {t u : Tm}, ordT t u = 0 → t = u
  | .mk o m d ks, .mk o' m' d' ks' => by
    unfold ordT
    simp only [Tm.op, Tm.num, Tm.data, Tm.kids, or0_zero, cmpI_zero, cmpL_zero]
    rintro ⟨rfl, rfl, rfl, h⟩
    rw [ordL_zero h]
theorem ordL_zero : ∀ {ks l : List Tm}, ordL ks l = 0 → ks = l
  | [], [] => fun _ => rfl
  | [], _ :: _ => fun h => by rw [ordL_nil] at h; simp at h
  | _ :: _, [] => fun h => by rw [ordL_end] at h; simp at h
  | k :: ks, m :: ms => fun h => by
    rw [ordL_cons, or0_zero] at h
    rw [ordT_zero h.1, ordL_zero h.2]
end
mutual
theorem ordT_refl : ∀ t : Tm, ordT t t = 0
  | .mk o m d ks => by
    unfold ordT
    simp only [Tm.op, Tm.num, Tm.data, Tm.kids, or0_zero, cmpI_zero, cmpL_zero]
    simp [ordL_refl ks]
theorem ordL_refl : ∀ ks : List Tm, ordL ks ks = 0
  | [] => by unfold ordL; simp
  | k :: ks => by rw [ordL_cons, ordT_refl k, ordL_refl ks]; rfl
end
/-! ### Ahead of what is ahead -/
/-- Of three: what stands not behind, and then not behind, stands not behind; ahead if one of both is. -/
def Tri (x y z : Int) : Prop := Sg x → Sg y → Sg z → x ≤ 0 → y ≤ 0 → (z ≤ 0 ∧ (x < 0 ∨ y < 0 → z < 0))
theorem cmpI_tri (a b c : Int) : cmpI a b ≤ 0 → cmpI b c ≤ 0 → cmpI a c ≤ 0 ∧ (cmpI a b < 0 ∨ cmpI b c < 0 → cmpI a c < 0) := by
  unfold cmpI
  split <;> (try split) <;> (try split) <;> (try split) <;> (try split) <;> (try split) <;> omega
theorem or0_tri {x y z x' y' z' : Int} (sx : Sg x) (sy : Sg y) (sz : Sg z) (h : x ≤ 0 → y ≤ 0 → z ≤ 0 ∧ (x < 0 ∨ y < 0 → z < 0)) (hz : x = 0 → y = 0 → z = 0) (h' : x' ≤ 0 → y' ≤ 0 → z' ≤ 0 ∧ (x' < 0 ∨ y' < 0 → z' < 0)) :
    or0 x x' ≤ 0 → or0 y y' ≤ 0 → or0 z z' ≤ 0 ∧ (or0 x x' < 0 ∨ or0 y y' < 0 → or0 z z' < 0) := by
  unfold Sg at sx sy sz
  unfold or0
  intro h1 h2
  by_cases ex : x = 0
  · by_cases ey : y = 0
    · have ez := hz ex ey
      rw [if_pos ex] at h1
      rw [if_pos ey] at h2
      rw [if_pos ex, if_pos ey, if_pos ez]
      exact h' h1 h2
    · rw [if_neg ey] at h2
      have := h (by omega) h2
      have hz1 : z ≠ 0 := by have := this.2 (by omega); omega
      rw [if_neg hz1]
      exact ⟨this.1, fun _ => this.2 (by omega)⟩
  · rw [if_neg ex] at h1
    have hy : y ≤ 0 := by
      by_cases ey : y = 0
      · omega
      · rw [if_neg ey] at h2; exact h2
    have := h h1 hy
    have hz1 : z ≠ 0 := by have := this.2 (by omega); omega
    rw [if_neg hz1]
    exact ⟨this.1, fun _ => this.2 (by omega)⟩
theorem cmpL_tri : ∀ x y z : List Int, cmpL x y ≤ 0 → cmpL y z ≤ 0 → cmpL x z ≤ 0 ∧ (cmpL x y < 0 ∨ cmpL y z < 0 → cmpL x z < 0)
  | [], [], [] => by simp [cmpL]
  | [], [], _ :: _ => by simp [cmpL]
  | [], _ :: _, [] => by simp [cmpL]
  | [], _ :: _, _ :: _ => by simp [cmpL]
  | _ :: _, [], _ => by simp [cmpL]
  | _ :: _, _ :: _, [] => by simp [cmpL]
  | a :: x, b :: y, c :: z => by
    have e : ∀ (p q : Int) (u v : List Int), cmpL (p :: u) (q :: v) = or0 (cmpI p q) (cmpL u v) := fun p q u v => by
      conv => lhs; unfold cmpL
      unfold or0
      by_cases h : p = q
      · rw [if_pos h, if_pos (cmpI_zero.2 h)]
      · rw [if_neg h, if_neg (fun k => h (cmpI_zero.1 k))]
    rw [e, e, e]
    exact or0_tri (cmpI_sg _ _) (cmpI_sg _ _) (cmpI_sg _ _) (cmpI_tri a b c) (fun h k => by rw [cmpI_zero] at *; omega) (cmpL_tri x y z)
mutual
theorem ordT_tri : ∀ t u v : Tm, ordT t u ≤ 0 → ordT u v ≤ 0 → ordT t v ≤ 0 ∧ (ordT t u < 0 ∨ ordT u v < 0 → ordT t v < 0)
  | .mk o m d ks, .mk o' m' d' ks', .mk o'' m'' d'' ks'' => by
    unfold ordT
    simp only [Tm.op, Tm.num, Tm.data, Tm.kids]
    refine or0_tri (cmpI_sg _ _) (cmpI_sg _ _) (cmpI_sg _ _) (cmpI_tri _ _ _) (fun h k => by rw [cmpI_zero] at *; omega) ?_
    refine or0_tri (cmpI_sg _ _) (cmpI_sg _ _) (cmpI_sg _ _) (cmpI_tri _ _ _) (fun h k => by rw [cmpI_zero] at *; omega) ?_
    exact or0_tri (cmpL_sg _ _) (cmpL_sg _ _) (cmpL_sg _ _) (cmpL_tri _ _ _) (fun h k => by rw [cmpL_zero] at *; rw [h, k]) (ordL_tri ks ks' ks'')
theorem ordL_tri : ∀ x y z : List Tm, ordL x y ≤ 0 → ordL y z ≤ 0 → ordL x z ≤ 0 ∧ (ordL x y < 0 ∨ ordL y z < 0 → ordL x z < 0)
  | [], [], z => by simp [ordL_nil]
  | [], _ :: _, [] => by simp [ordL_nil, ordL_end]
  | [], _ :: _, _ :: _ => by simp [ordL_nil]
  | _ :: _, [], _ => by simp [ordL_end]
  | _ :: _, _ :: _, [] => by simp [ordL_end]
  | a :: x, b :: y, c :: z => by
    rw [ordL_cons, ordL_cons, ordL_cons]
    exact or0_tri (ordT_sg _ _) (ordT_sg _ _) (ordT_sg _ _) (ordT_tri a b c) (fun h k => by rw [ordT_zero h, ordT_zero k]; exact ordT_refl _) (ordL_tri x y z)
end
end Go.Proofs.YtlhogjigdmpokaaGreatDoor.tmc
namespace Go.Proofs.YtlhogjigdmpokaaGreatDoor.tmc
open Go.RowKit Go.Proofs.YtlhogjigdmpokaaGreatDoor.tlvc
set_option linter.unusedVariables false
set_option maxRecDepth 100000 in
set_option maxHeartbeats 4000000 in
theorem parts_of {B : Nat → Prop} : ∀ (N : Nat) (n : Tm), szT n ≤ N → ∀ (v : Value) (most : Int) (w : World), TmV B w n v → 0 ≤ most → most ≤ 20000 →
    Calls Tryz.prog 27 #[v, .int .i64 most] w fun e w' => e = .returned (.int .i64 (partsF n most)) ∧ Below w.heap.size w w'
  | 0, .mk _ _ _ ks, h, _, _, _, _, _, _ => by unfold szT at h; omega
  | N + 1, .mk t m b ks, h, v, most, w, hv, h0, h1 => by
    obtain ⟨c0, c1, c2, c3, rfl, hc⟩ := hv
    unfold TmC at hc
    obtain ⟨rfl, ht, rfl, hm, ⟨A, la, ca, rfl, hA1, hA2, hA3, _⟩, K, ck, rfl, hK1, hK2, hK3⟩ := hc
    unfold szT at h
    have ih : ∀ k ∈ ks, ∀ (v : Value) (most : Int) (w : World), TmV B w k v → 0 ≤ most → most ≤ 20000 → Calls Tryz.prog 27 #[v, .int .i64 most] w fun e w' => e = .returned (.int .i64 (partsF k most)) ∧ Below w.heap.size w w' := fun k hk => parts_of N k (by have := szTs_mem hk; omega)
    have ibd : ∀ k ∈ ks, ∀ m, 0 ≤ m → 1 ≤ partsF k m ∧ partsF k m ≤ m + 1 := fun k hk => partsF_bd N k (by have := szTs_mem hk; omega)
    obtain ⟨ANS, hANS⟩ : ∃ x, partsF (.mk t m b ks) most = x := ⟨_, rfl⟩
    rw [hANS]
    unfold partsF at hANS
    have IH := Lib.hid ih
    have IBD := Lib.hid ibd
    have HK3 := Lib.hid hK3
    have HA3 := Lib.hid hA3
    obtain ⟨len, hlen⟩ : ∃ x, ks.length = x := ⟨_, rfl⟩
    rw [hlen] at hK1 ⊢
    have hK9 : ck ≤ 9223372036854775807 := by unfold maxLen at hK2; omega
    clear ih ibd hA3 hK3 parts_of
    go_enter Tryz.func27, Tryz.ntmps27
    go_wp2_with fail
    go_loopg [5, 6] (len + 1) (fun gk s5 s6 wx => ∃ (i : Nat) (k : Int), s5 = .int .i64 k ∧ s6 = .int .i64 i ∧ i ≤ len ∧ len - i < gk ∧ 1 ≤ k ∧ k ≤ most + 1 ∧ Hid (partsL (ks.drop i) most k = ANS) ∧ Below (w.heap.size + 1) (w.alloc (.cells #[.int .i64 t, .int .i64 m, .slice A la ca, .slice K len ck] 43)) wx)
    case atStart => exact ⟨0, 1, rfl, rfl, by omega, by omega, by omega, by omega, Lib.hid hANS, Below.refl _ _⟩
    case round =>
      obtain ⟨i, k, rfl, rfl, hi, hgk, hk1, hk2, hq, hbel⟩ := hrel
      have hf2 : wr.cell? ⟨w.heap.size, 3, none⟩ = some (.slice K len ck) := by
        rw [hbel.cell (p := ⟨w.heap.size, 3, none⟩) (by show w.heap.size < w.heap.size + 1; omega), World.cell?_alloc_mark]; rfl
      have hbw : Below w.heap.size w wr := ((Below.refl _ _).alloc (Nat.le_refl _) _).trans (hbel.mono (Nat.le_succ _))
      by_cases hlt : i < len
      · have hltz : (i : Int) < (len : Int) := by omega
        by_cases hkm : k ≤ most
        · obtain ⟨gk', rfl⟩ : ∃ g', gk = g' + 1 := ⟨gk - 1, by omega⟩
          obtain ⟨g, off, rfl, hg, hBg, hks⟩ := HK3.out (by omega)
          obtain ⟨d0, d1, d2, d3, e0, e1, e2, e3, hd⟩ := (KidsC.below hbw hg hBg ks off hks).at i (by omega)
          clear hks
          have hmem : ks[i] ∈ ks := List.getElem_mem _
          have hpb := IBD.out _ hmem (most - k) (by omega)
          have ih := IH.out _ hmem (.agg #[d0, d1, d2, d3]) (most - k) wr ⟨d0, d1, d2, d3, rfl, hd⟩ (by omega) (by omega)
          have hstep : partsL (ks.drop i) most k = partsL (ks.drop (i + 1)) most (k + partsF ks[i] (most - k)) := by
            rw [List.drop_eq_getElem_cons (by omega)]
            conv => lhs; unfold partsL
            rw [if_pos hkm]
          have hq2 := hq.out
          rw [hstep] at hq2
          obtain ⟨p, hp⟩ : ∃ x, partsF ks[i] (most - k) = x := ⟨_, rfl⟩
          rw [hp] at hpb ih hq2
          have IH2 := Lib.hid ih
          have Q2 := Lib.hid hq2
          have hw1 : IntKind.i64.wrap (most - k) = most - k := IntWalk.i64_in _ (by omega)
          have hw2 : IntKind.i64.wrap (k + p) = k + p := IntWalk.i64_in _ (by omega)
          have hpk : k + p ≤ most + 1 := by omega
          clear ih hq2 hstep hd hp hmem hq
          go_wp2_with fail
          refine IH2.out.mono ?_
          rintro e w2 ⟨rfl, hb2⟩
          have hbel2 : Below (w.heap.size + 1) (w.alloc (.cells #[.int .i64 t, .int .i64 m, .slice A la ca, .slice (some ⟨g, off, none⟩) len ck] 43)) w2 := hbel.trans (hb2.mono (by have := hbel.size; simpa using this))
          clear IH2 hb2 hbel hbw e0 e1 e2 e3
          go_wp2
          go_roundg gk'
          case measure => omega
          case rel => exact ⟨i + 1, k + p, rfl, by go_num, by omega, by omega, by omega, hpk, Q2, hbel2⟩
        · have hkz : ¬ k ≤ most := hkm
          have hend : k = ANS := by
            rw [← hq.out, List.drop_eq_getElem_cons (by omega)]
            conv => rhs; unfold partsL
            rw [if_neg hkm]
          clear hq IH IBD HK3 HA3 hbel
          subst hend
          go_wp2
          go_ret
          exact ⟨rfl, hbw⟩
      · have hltz : ¬ (i : Int) < (len : Int) := by omega
        have hend : k = ANS := by
          rw [← hq.out, List.drop_eq_nil_of_le (by omega)]
          conv => rhs; unfold partsL
        clear hq IH IBD HK3 HA3 hbel
        subst hend
        go_wp2
        go_ret
        exact ⟨rfl, hbw⟩
/-- Is a term too great? -/
def greatB (n : Tm) : Bool := decide (2000 < partsF n 2000)
theorem great_no {n : Tm} (h : greatB n = false) : szT n ≤ 2000 := by
  unfold greatB at h
  have h : ¬ 2000 < partsF n 2000 := of_decide_eq_false h
  have := partsF_true _ n (Nat.le_refl _) 2000 (by omega) (by omega)
  omega
end Go.Proofs.YtlhogjigdmpokaaGreatDoor.tmc
namespace Go.Proofs.YtlhogjigdmpokaaGreatDoor.tmc
open Go.RowKit Go.Proofs.YtlhogjigdmpokaaGreatDoor.tlvc
set_option linter.unusedVariables false
theorem cmpOp_any (a b : Int) (w : World) :
    Calls Tryz.prog 89 #[.int .i64 a, .int .i64 b] w fun e w' => e = .returned (.int .i64 (cmpI a b)) ∧ w' = w := by
  unfold cmpI
  have nan : ∀ (x : Int) (w : World), Calls Tryz.prog 115 #[.int .i64 x] w fun e w' => e = .returned (.bool false) ∧ w' = w := by
    intro x w
    go_enter Tryz.func115, Tryz.ntmps115
    go_wp2
    go_ret
    exact ⟨rfl, rfl⟩
  by_cases h : a < b
  · rw [if_pos h]
    go_enter Tryz.func89, Tryz.ntmps89
    go_wp2_with ((with_reducible refine (nan _ _).mono ?_); rintro e w' ⟨rfl, rfl⟩)
    go_ret
    exact ⟨rfl, rfl⟩
  · rw [if_neg h]
    by_cases k : b < a
    · rw [if_pos k]
      go_enter Tryz.func89, Tryz.ntmps89
      go_wp2_with ((with_reducible refine (nan _ _).mono ?_); rintro e w' ⟨rfl, rfl⟩)
      go_ret
      exact ⟨rfl, rfl⟩
    · rw [if_neg k]
      go_enter Tryz.func89, Tryz.ntmps89
      go_wp2_with ((with_reducible refine (nan _ _).mono ?_); rintro e w' ⟨rfl, rfl⟩)
      go_ret
      exact ⟨rfl, rfl⟩
theorem cmp64_any (a b : Int) (w : World) :
    Calls Tryz.prog 90 #[.int .i64 a, .int .i64 b] w fun e w' => e = .returned (.int .i64 (cmpI a b)) ∧ w' = w := by
  unfold cmpI
  have nan : ∀ (x : Int) (w : World), Calls Tryz.prog 116 #[.int .i64 x] w fun e w' => e = .returned (.bool false) ∧ w' = w := by
    intro x w
    go_enter Tryz.func116, Tryz.ntmps116
    go_wp2
    go_ret
    exact ⟨rfl, rfl⟩
  by_cases h : a < b
  · rw [if_pos h]
    go_enter Tryz.func90, Tryz.ntmps90
    go_wp2_with ((with_reducible refine (nan _ _).mono ?_); rintro e w' ⟨rfl, rfl⟩)
    go_ret
    exact ⟨rfl, rfl⟩
  · rw [if_neg h]
    by_cases k : b < a
    · rw [if_pos k]
      go_enter Tryz.func90, Tryz.ntmps90
      go_wp2_with ((with_reducible refine (nan _ _).mono ?_); rintro e w' ⟨rfl, rfl⟩)
      go_ret
      exact ⟨rfl, rfl⟩
    · rw [if_neg k]
      go_enter Tryz.func90, Tryz.ntmps90
      go_wp2_with ((with_reducible refine (nan _ _).mono ?_); rintro e w' ⟨rfl, rfl⟩)
      go_ret
      exact ⟨rfl, rfl⟩
set_option maxRecDepth 100000 in
theorem bcmp_any (A B : Option Addr) (n c m d : Nat) (xs ys : List Int) (w : World) (hx : Bys w A n xs) (hy : Bys w B m ys) :
    Calls Tryz.prog 91 #[.slice A n c, .slice B m d] w fun e w' => e = .returned (.int .i64 (cmpL xs ys)) ∧ w' = w := by
  have hrun : (callFunc 117 #[.slice A n c, .slice B m d]).run Tryz.prog w = .ok (.value (.int .i64 (cmpL xs ys))) w := by
    rw [run_callFunc_extern Tryz.func117 (by kernel_rfl) (by kernel_rfl) (by kernel_rfl) (show Extern.find _ = some Extern.BytealgCompare.compare by kernel_rfl), ndc.run_compare hx hy, cmp_L hx.2.1 hy.2.1]
    rfl
  obtain ⟨r, hr⟩ : ∃ r, cmpL xs ys = r := ⟨_, rfl⟩
  rw [hr] at hrun ⊢
  clear hr
  go_enter Tryz.func91, Tryz.ntmps91
  go_wp2
  go_ret
  exact ⟨rfl, rfl⟩
/-- The first of three that is not 0. -/
theorem first_any (g : Nat) (a b c : Int) (w : World) (h0 : w.cell? ⟨g, 0, none⟩ = some (.int .i64 a)) (h1 : w.cell? ⟨g, 1, none⟩ = some (.int .i64 b)) (h2 : w.cell? ⟨g, 2, none⟩ = some (.int .i64 c)) :
    Calls Tryz.prog 88 #[.slice (some ⟨g, 0, none⟩) 3 3] w fun e w' => e = .returned (.int .i64 (or0 a (or0 b c))) ∧ w' = w := by
  unfold or0
  by_cases ha : a = 0
  · subst ha
    rw [if_pos rfl]
    by_cases hb : b = 0
    · subst hb
      rw [if_pos rfl]
      by_cases hc : c = 0
      · subst hc
        go_enter Tryz.func88, Tryz.ntmps88
        go_wp2_with fail
        refine wp_loop_rounds 4 ?_; rw [rounds_succ]; go_wp2
        rw [rounds_succ]; go_wp2
        rw [rounds_succ]; go_wp2
        rw [rounds_succ]; go_wp2
        go_ret
        exact ⟨rfl, rfl⟩
      · have hcb : (c == 0) = false := by simpa using hc
        go_enter Tryz.func88, Tryz.ntmps88
        go_wp2_with fail
        refine wp_loop_rounds 4 ?_; rw [rounds_succ]; go_wp2
        rw [rounds_succ]; go_wp2
        rw [rounds_succ]; go_wp2
        go_ret
        exact ⟨rfl, rfl⟩
    · have hbb : (b == 0) = false := by simpa using hb
      rw [if_neg hb]
      go_enter Tryz.func88, Tryz.ntmps88
      go_wp2_with fail
      refine wp_loop_rounds 4 ?_; rw [rounds_succ]; go_wp2
      rw [rounds_succ]; go_wp2
      go_ret
      exact ⟨rfl, rfl⟩
  · have hab : (a == 0) = false := by simpa using ha
    rw [if_neg ha]
    go_enter Tryz.func88, Tryz.ntmps88
    go_wp2_with fail
    refine wp_loop_rounds 4 ?_; rw [rounds_succ]; go_wp2
    go_ret
    exact ⟨rfl, rfl⟩
end Go.Proofs.YtlhogjigdmpokaaGreatDoor.tmc
namespace Go.Proofs.YtlhogjigdmpokaaGreatDoor.tmc
open Go.RowKit Go.Proofs.YtlhogjigdmpokaaGreatDoor.tlvc
set_option linter.unusedVariables false
/-- A slice of terms, whose cells lie in blocks of B. -/
def TmsB (B : Nat → Prop) (w : World) (A : Option Addr) (ks : List Tm) : Prop := 0 < ks.length → ∃ g off, A = some ⟨g, off, none⟩ ∧ g < w.heap.size ∧ B g ∧ KidsC B w g off ks
theorem TmsB.below {B : Nat → Prop} {w w' : World} {A : Option Addr} {ks : List Tm} (h : TmsB B w A ks) (hb : Below w.heap.size w w') : TmsB B w' A ks := fun hk => by
  obtain ⟨g, off, e, hg, hB, hks⟩ := h hk
  exact ⟨g, off, e, Nat.lt_of_lt_of_le hg hb.size, hB, KidsC.below hb hg hB _ _ hks⟩
/-- The contract of Order at two terms. -/
def Orders (k m : Tm) : Prop := ∀ (C1 C2 : Nat → Prop) (v u : Value) (w : World), TmV C1 w k v → TmV C2 w m u → Calls Tryz.prog 70 #[v, u] w fun e w' => e = .returned (.int .i64 (ordT k m)) ∧ Below w.heap.size w w'
/-- .. and it draws no less. -/
def OrdersD (k m : Tm) : Prop := ∀ (C1 C2 : Nat → Prop) (v u : Value) (w : World), TmV C1 w k v → TmV C2 w m u → Calls Tryz.prog 70 #[v, u] w fun e w' => e = .returned (.int .i64 (ordT k m)) ∧ Below w.heap.size w w' ∧ w.drawn ≤ w'.drawn
theorem ordL_drop {ks ls : List Tm} {i : Nat} (h : i < ks.length) (h2 : i < ls.length) : ordL (ks.drop i) (ls.drop i) = or0 (ordT ks[i] ls[i]) (ordL (ks.drop (i + 1)) (ls.drop (i + 1))) := by
  rw [List.drop_eq_getElem_cons h, List.drop_eq_getElem_cons h2, ordL_cons]
set_option maxRecDepth 100000 in
set_option maxHeartbeats 8000000 in
theorem compareFunc_any (C1 C2 : Nat → Prop) (ks ls : List Tm) (A B : Option Addr) (la ca lb cb : Nat) (w : World) (e1 : ks.length = la) (e2 : ls.length = lb) (hA : TmsB C1 w A ks) (hB : TmsB C2 w B ls) (hc1 : la ≤ ca) (hc2 : lb ≤ cb) (hm1 : ca ≤ maxLen) (hm2 : cb ≤ maxLen)
    (ho : ∀ k ∈ ks, ∀ m, OrdersD k m) :
    Calls Tryz.prog 92 #[.slice A la ca, .slice B lb cb, .func (.func 70) #[] #[]] w fun e w' => e = .returned (.int .i64 (ordL ks ls)) ∧ Below w.heap.size w w' ∧ w.drawn ≤ w'.drawn := by
  have hen := enters_of Tryz.func70 (by kernel_rfl) rfl
  obtain ⟨ANS, hANS⟩ : ∃ x, ordL ks ls = x := ⟨_, rfl⟩
  rw [hANS]
  have HO := Lib.hid ho
  have HA := Lib.hid hA
  have HB := Lib.hid hB
  have h9 : ca ≤ 9223372036854775807 := by unfold maxLen at hm1; omega
  have h8 : cb ≤ 9223372036854775807 := by unfold maxLen at hm2; omega
  clear ho hA hB
  go_enter Tryz.func92, Tryz.ntmps92
  go_wp2_with fail
  go_loopg [13] (la + 1) (fun gk s13 wx => ∃ (i : Nat), s13 = .int .i64 i ∧ i ≤ la ∧ i ≤ lb ∧ la - i < gk ∧ Hid (ordL (ks.drop i) (ls.drop i) = ANS) ∧ Below w.heap.size w wx ∧ w.drawn ≤ wx.drawn)
  case atStart => exact ⟨0, rfl, by omega, by omega, by omega, Lib.hid hANS, Below.refl _ _, Nat.le_refl _⟩
  case round =>
    obtain ⟨i, rfl, hi, hj, hgk, hq, hbel, hdr⟩ := hrel
    by_cases hlt : i < la
    · have hltz : (i : Int) < (la : Int) := by omega
      obtain ⟨gk', rfl⟩ : ∃ g', gk = g' + 1 := ⟨gk - 1, by omega⟩
      obtain ⟨g, off, rfl, hg, hBg, hks⟩ := HA.out (by omega)
      obtain ⟨d0, d1, d2, d3, x0, x1, x2, x3, hd⟩ := (KidsC.below hbel hg hBg ks off hks).at i (by omega)
      clear hks
      obtain ⟨to, tm, tA, tla, tca, tK, tlk, tck, q0, q1, q2, q3⟩ := hd.shape
      subst q0 q1 q2 q3
      have hbn : Below wr.heap.size wr (wr.alloc (.cells #[.int .i64 to, .int .i64 tm, .slice tA tla tca, .slice tK tlk tck] 43)) := (Below.refl _ _).alloc (Nat.le_refl _) _
      by_cases hl2 : i < lb
      · have hl2z : ¬ (lb : Int) ≤ (i : Int) := by omega
        have hl3 : (i : Int) < (lb : Int) := by omega
        obtain ⟨g2, off2, rfl, hg2, hBg2, hms⟩ := HB.out (by omega)
        obtain ⟨f0, f1, f2, f3, y0, y1, y2, y3, hf⟩ := (KidsC.below hbel hg2 hBg2 ls off2 hms).at i (by omega)
        clear hms
        obtain ⟨uo, um, uA, ula, uca, uK, ulk, uck, r0, r1, r2, r3⟩ := hf.shape
        subst r0 r1 r2 r3
        have lg2 : g2 < wr.heap.size := Nat.lt_of_lt_of_le hg2 hbel.size
        have hbn2 := hbn.alloc hbn.size (.cells #[.int .i64 uo, .int .i64 um, .slice uA ula uca, .slice uK ulk uck] 43)
        have ih := HO.out ks[i] (List.getElem_mem _) (ls[i]'(by omega)) C1 C2 (.agg #[.int .i64 to, .int .i64 tm, .slice tA tla tca, .slice tK tlk tck]) (.agg #[.int .i64 uo, .int .i64 um, .slice uA ula uca, .slice uK ulk uck])
          ((wr.alloc (.cells #[.int .i64 to, .int .i64 tm, .slice tA tla tca, .slice tK tlk tck] 43)).alloc (.cells #[.int .i64 uo, .int .i64 um, .slice uA ula uca, .slice uK ulk uck] 43))
          ⟨_, _, _, _, rfl, TmC.below hbn2 _ _ _ _ _ hd⟩ ⟨_, _, _, _, rfl, TmC.below hbn2 _ _ _ _ _ hf⟩
        have hq2 := hq.out
        rw [ordL_drop (by omega) (by omega)] at hq2
        obtain ⟨r, hr⟩ : ∃ x, ordT ks[i] (ls[i]'(by omega)) = x := ⟨_, rfl⟩
        rw [hr] at ih hq2
        have IH2 := Lib.hid ih
        have Q2 := Lib.hid hq2
        clear ih hq2 hd hf hr hq
        go_wp2_with fail
        refine IH2.out.mono ?_
        rintro e w2 ⟨rfl, hb2, hdw⟩
        have hdr2 : w.drawn ≤ w2.drawn := Nat.le_trans hdr hdw
        have hbel2 : Below w.heap.size w w2 := (hbel.trans (hbn2.mono hbel.size)).trans (hb2.mono (by have := hbel.size; simp; omega))
        clear IH2 hdr hdw hb2 hbel hbn hbn2 x0 x1 x2 x3 y0 y1 y2 y3 lg2
        by_cases hr0 : r = 0
        · subst hr0
          have Q3 : Hid (ordL (ks.drop (i + 1)) (ls.drop (i + 1)) = ANS) := Lib.hid (by have := Q2.out; unfold or0 at this; rwa [if_pos rfl] at this)
          clear Q2
          go_wp2
          go_roundg gk'
          case measure => omega
          case rel => exact ⟨i + 1, by go_num, by omega, by omega, by omega, Q3, hbel2, hdr2⟩
        · have hrb : (r == 0) = false := by simpa using hr0
          have hE : r = ANS := by have := Q2.out; unfold or0 at this; rwa [if_neg hr0] at this
          clear Q2 HO HA HB hANS
          subst hE
          go_wp2
          go_ret
          exact ⟨rfl, hbel2, hdr2⟩
      · have hl2z : (lb : Int) ≤ (i : Int) := by omega
        have hE : (1 : Int) = ANS := by
          rw [← hq.out, List.drop_eq_getElem_cons (by omega), List.drop_eq_nil_of_le (show ls.length ≤ i by omega), ordL_end]
        clear hq hANS HO HA HB
        subst hE
        have hbz := hbel.trans (hbn.mono hbel.size)
        clear hbel hbn hd
        go_wp2
        go_ret
        exact ⟨rfl, hbz, hdr⟩
    · have hltz : ¬ (i : Int) < (la : Int) := by omega
      have hE : (if lb = i then (0 : Int) else -1) = ANS := by
        rw [← hq.out, List.drop_eq_nil_of_le (show ks.length ≤ i by omega), ordL_nil, List.length_drop]
        by_cases h : lb = i
        · rw [if_pos h, if_pos (by omega)]
        · rw [if_neg h, if_neg (by omega)]
      obtain rfl : i = la := by omega
      clear hq hANS HO HA HB
      by_cases h : lb = i
      · rw [if_pos h] at hE
        subst hE
        have hz : ¬ (i : Int) < (lb : Int) := by omega
        clear h
        go_wp2
        go_ret
        exact ⟨rfl, hbel, hdr⟩
      · rw [if_neg h] at hE
        have hz : (i : Int) < (lb : Int) := by omega
        clear h
        subst hE
        go_wp2
        go_ret
        exact ⟨rfl, hbel, hdr⟩
end Go.Proofs.YtlhogjigdmpokaaGreatDoor.tmc
namespace Go.Proofs.YtlhogjigdmpokaaGreatDoor.tmc
open Go.RowKit Go.Proofs.YtlhogjigdmpokaaGreatDoor.tlvc
set_option linter.unusedVariables false
theorem box4 {W0 W : World} {B g : Nat} {a b c d : Value} {T : TypeId} (hB : Below B W0 W) (hq : W0.heap[g]? = some (.cells #[a, b, c, d] T)) (hg : g < B) :
    W.cell? ⟨g, 0, none⟩ = some a ∧ W.cell? ⟨g, 1, none⟩ = some b ∧ W.cell? ⟨g, 2, none⟩ = some c ∧ W.cell? ⟨g, 3, none⟩ = some d := by
  have h := (hB.block g hg).trans hq
  exact ⟨by rw [Lib.cell_of_heap h]; rfl, by rw [Lib.cell_of_heap h]; rfl, by rw [Lib.cell_of_heap h]; rfl, by rw [Lib.cell_of_heap h]; rfl⟩
theorem heap_old_ (w : World) (o : Obj) {k : Nat} (h : k < w.heap.size) : (w.alloc o).heap[k]? = w.heap[k]? := by show (w.heap.push o)[k]? = _; rw [Array.getElem?_push_lt h]; exact (Array.getElem?_eq_getElem h).symm
theorem heap_new_ (w : World) (o : Obj) : (w.alloc o).heap[w.heap.size]? = some o := by show (w.heap.push o)[w.heap.size]? = _; simp
theorem below_new (w : World) (o : Obj) : Below w.heap.size w (w.alloc o) := (Below.refl _ _).alloc (Nat.le_refl _) _
theorem below_then {B : Nat} {w w1 w2 : World} (h : Below B w w1) (k : Below w1.heap.size w1 w2) (hB : B ≤ w.heap.size) : Below B w w2 := h.trans (k.mono (Nat.le_trans hB h.size))
set_option maxRecDepth 100000 in
set_option maxHeartbeats 8000000 in
theorem order_step (o m : Int) (d : List Int) (ks : List Tm) (hk : ∀ k ∈ ks, ∀ l, OrdersD k l) (n : Tm) : OrdersD (.mk o m d ks) n := by
  intro C1 C2 v u w hv hu
  obtain ⟨o', m', d', ls⟩ := n
  obtain ⟨c0, c1, c2, c3, rfl, hc⟩ := hv
  obtain ⟨f0, f1, f2, f3, rfl, hf⟩ := hu
  unfold TmC at hc hf
  obtain ⟨rfl, ho, rfl, hm, ⟨A, la, ca, rfl, hA1, hA2, hA3, _⟩, K, ck, rfl, hK1, hK2, hK3⟩ := hc
  obtain ⟨rfl, ho', rfl, hm', ⟨B, lb, cb, rfl, hB1, hB2, hB3, _⟩, L, cl, rfl, hL1, hL2, hL3⟩ := hf
  obtain ⟨W0, hW0⟩ : ∃ x, (w.alloc (.cells #[.int .i64 o, .int .i64 m, .slice A la ca, .slice K ks.length ck] 43)).alloc (.cells #[.int .i64 o', .int .i64 m', .slice B lb cb, .slice L ls.length cl] 43) = x := ⟨_, rfl⟩
  have hz : W0.heap.size = w.heap.size + 2 := by rw [← hW0]; simp
  have hbw : Below w.heap.size w W0 := by rw [← hW0]; exact (below_new _ _).alloc (by simp) _
  have p0 : W0.heap[w.heap.size]? = some (.cells #[.int .i64 o, .int .i64 m, .slice A la ca, .slice K ks.length ck] 43) := by rw [← hW0, heap_old_ _ _ (by simp)]; exact heap_new_ _ _
  have p1 : W0.heap[w.heap.size + 1]? = some (.cells #[.int .i64 o', .int .i64 m', .slice B lb cb, .slice L ls.length cl] 43) := by
    rw [← hW0]
    have := heap_new_ (w.alloc (.cells #[.int .i64 o, .int .i64 m, .slice A la ca, .slice K ks.length ck] 43)) (.cells #[.int .i64 o', .int .i64 m', .slice B lb cb, .slice L ls.length cl] 43)
    rwa [show (w.alloc (.cells #[.int .i64 o, .int .i64 m, .slice A la ca, .slice K ks.length ck] 43)).heap.size = w.heap.size + 1 by simp] at this
  obtain ⟨a0, a1, a2, a3⟩ := box4 (Below.refl W0.heap.size W0) p0 (by omega)
  obtain ⟨b0, b1, b2, b3⟩ := box4 (Below.refl W0.heap.size W0) p1 (by omega)
  have hx := hA3.below hbw
  have hy := hB3.below hbw
  have k1 := cmpOp_any o o'
  have k2 := cmp64_any m m'
  have k3 := bcmp_any A B la ca lb cb d d' W0.drew hx.drew hy.drew
  have hord : ordT (.mk o m d ks) (.mk o' m' d' ls) = or0 (or0 (cmpI o o') (or0 (cmpI m m') (cmpL d d'))) (ordL ks ls) := by
    unfold ordT or0
    simp only [Tm.op, Tm.num, Tm.data, Tm.kids]
    by_cases h1 : cmpI o o' = 0
    · by_cases h2 : cmpI m m' = 0
      · by_cases h3 : cmpL d d' = 0 <;> simp [h1, h2, h3]
      · simp [h1, h2]
    · simp [h1]
  have hcf : ∀ W, Below W0.heap.size W0 W → Calls Tryz.prog 92 #[.slice K ks.length ck, .slice L ls.length cl, .func (.func 70) #[] #[]] W fun e w' => e = .returned (.int .i64 (ordL ks ls)) ∧ Below W.heap.size W w' ∧ W.drawn ≤ w'.drawn := fun W hW =>
    compareFunc_any C1 C2 ks ls K L ks.length ck ls.length cl W rfl rfl (TmsB.below hK3 (hbw.trans (hW.mono hbw.size))) (TmsB.below hL3 (hbw.trans (hW.mono hbw.size))) hK1 hL1 hK2 hL2 hk
  have hbx : ∀ W, Below W0.heap.size W0 W → W.cell? ⟨w.heap.size, 3, none⟩ = some (.slice K ks.length ck) ∧ W.cell? ⟨w.heap.size + 1, 3, none⟩ = some (.slice L ls.length cl) := fun W hW => ⟨(box4 hW p0 (by omega)).2.2.2, (box4 hW p1 (by omega)).2.2.2⟩
  rw [hord]
  obtain ⟨r1, h1⟩ : ∃ x, cmpI o o' = x := ⟨_, rfl⟩
  obtain ⟨r2, h2⟩ : ∃ x, cmpI m m' = x := ⟨_, rfl⟩
  obtain ⟨r3, h3⟩ : ∃ x, cmpL d d' = x := ⟨_, rfl⟩
  obtain ⟨r4, h4⟩ : ∃ x, ordL ks ls = x := ⟨_, rfl⟩
  rw [h1] at k1
  rw [h2] at k2
  rw [h3] at k3
  rw [h4] at hcf
  rw [h1, h2, h3, h4]
  obtain ⟨RES, hRES⟩ : ∃ x, or0 (or0 r1 (or0 r2 r3)) r4 = x := ⟨_, rfl⟩
  rw [hRES]
  have HRES := Lib.hid hRES
  clear hRES
  have K1 := Lib.hid k1
  have K2 := Lib.hid k2
  have K3 := Lib.hid k3
  have HCF := Lib.hid hcf
  have HBX := Lib.hid hbx
  have HBW := Lib.hid hbw
  clear h1 h2 h3 h4 k1 k2 k3 hcf hbx hbw hord hk hK3 hL3 hA3 hB3 hx hy p0 p1
  obtain ⟨lk, hlk⟩ : ∃ x, ks.length = x := ⟨_, rfl⟩
  obtain ⟨ll, hll⟩ : ∃ x, ls.length = x := ⟨_, rfl⟩
  rw [hlk] at hW0 a3 HCF HBX ⊢
  rw [hll] at hW0 b3 HCF HBX ⊢
  clear hlk hll
  go_enter Tryz.func70, Tryz.ntmps70
  have hWz := Lib.hid hW0
  go_wp2_with fail
  clear hW0
  refine wp_region_still_tail 15 (by kernel_rfl) (by kernel_rfl) ?_
  simp only [List.take_succ_cons, List.take_zero, List.drop_succ_cons, List.drop_zero]
  repeat still_step
  still_call (K1.out _)
  repeat still_step
  still_call (K2.out _)
  repeat still_step
  still_call (K3.out)
  repeat still_step
  refine wpStill_nil ?_
  change wpList _ _ _ _ _ W0.drew
  clear a0 a1 a2 a3 b0 b1 b2 b3 hz
  have hd : Below W0.heap.size W0 W0.drew := (Below.refl _ _).drew
  have hw0 : W0.drawn = w.drawn := by rw [← hWz.out]; rfl
  have hdd : w.drawn ≤ W0.drew.drawn := by show w.drawn ≤ W0.drawn + 1; omega
  obtain ⟨W1, hW1⟩ : ∃ x, W0.drew = x := ⟨_, rfl⟩
  rw [hW1] at hd hdd ⊢
  clear hW1
  have hn : Below W0.heap.size W0 (W1.alloc (.cells #[.int .i64 r1, .int .i64 r2, .int .i64 r3] 3)) := hd.alloc hd.size _
  have hq := heap_new_ W1 (.cells #[.int .i64 r1, .int .i64 r2, .int .i64 r3] 3)
  go_wp2_with fail
  refine (first_any W1.heap.size r1 r2 r3 _ (by rw [Lib.cell_of_heap hq]; rfl) (by rw [Lib.cell_of_heap hq]; rfl) (by rw [Lib.cell_of_heap hq]; rfl)).mono ?_
  rintro e w3 ⟨rfl, rfl⟩
  obtain ⟨z3, z4⟩ := HBX.out _ hn
  obtain ⟨r, hr⟩ : ∃ x, or0 r1 (or0 r2 r3) = x := ⟨_, rfl⟩
  have HRES2 : Hid (or0 r r4 = RES) := Lib.hid (by rw [← hr]; exact HRES.out)
  rw [hr]
  clear HRES
  have HN := Lib.hid hn
  clear hq hr hn hd
  by_cases hr0 : r = 0
  · subst hr0
    have hE : r4 = RES := by have := HRES2.out; unfold or0 at this; rwa [if_pos rfl] at this
    clear HRES2
    subst hE
    go_wp2_with fail
    refine (HCF.out _ HN.out).mono ?_
    rintro e w4 ⟨rfl, hb4, hd4⟩
    have hend := HBW.out.trans ((below_then HN.out hb4 (Nat.le_refl _)).mono HBW.out.size)
    have hdend : w.drawn ≤ w4.drawn := Nat.le_trans hdd hd4
    clear HCF HBX HBW HN z3 z4 hb4 hdd hd4
    go_wp2
    go_ret
    exact ⟨rfl, hend, hdend⟩
  · have hrb : (r == 0) = false := by simpa using hr0
    have hE : r = RES := by have := HRES2.out; unfold or0 at this; rwa [if_neg hr0] at this
    clear HRES2
    subst hE
    have hend := HBW.out.trans (HN.out.mono HBW.out.size)
    clear HCF HBX HBW HN
    go_wp2
    go_ret
    exact ⟨rfl, hend, hdd⟩
theorem orders_all : ∀ (N : Nat) (n : Tm), szT n ≤ N → ∀ l, OrdersD n l
  | 0, .mk _ _ _ ks, h => by unfold szT at h; omega
  | N + 1, .mk o m d ks, h => fun l => order_step o m d ks (fun k hk => orders_all N k (by unfold szT at h; have := szTs_mem hk; omega)) l
/-- Order's contract. -/
theorem order_d (n l : Tm) : OrdersD n l := orders_all _ n (Nat.le_refl _) l
theorem order_any (n l : Tm) : Orders n l := fun C1 C2 v u w h1 h2 => (order_d n l C1 C2 v u w h1 h2).mono fun _ _ h => ⟨h.1, h.2.1⟩
end Go.Proofs.YtlhogjigdmpokaaGreatDoor.tmc
