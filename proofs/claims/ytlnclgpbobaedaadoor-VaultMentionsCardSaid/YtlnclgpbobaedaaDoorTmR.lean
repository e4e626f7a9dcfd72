/- Which of two terms stands ahead: plain. -/
import Derived.Test.YtlnclgpbobaedaaDoorTmM
import Derived.Test.YtlnclgpbobaedaaDoorNdR
namespace Go.Proofs.YtlnclgpbobaedaaDoor.tmc
open Go.RowKit Go.Proofs.YtlnclgpbobaedaaDoor.tlvc
set_option linter.unusedVariables false
/-- Of two numbers. -/
def cmpI (a b : Int) : Int := if a < b then -1 else if b < a then 1 else 0
/-- Of two rows of bytes. -/
def cmpL : List Int → List Int → Int
  | [], [] => 0
  | [], _ :: _ => -1
  | _ :: _, [] => 1
  | a :: x, b :: y => if a = b then cmpL x y else cmpI a b
/-- The first that is not 0. -/
def or0 (a b : Int) : Int := if a = 0 then b else a
mutual
def ordT : Tm → Tm → Int
  | .mk o m d ks, t => or0 (cmpI o t.op) (or0 (cmpI m t.num) (or0 (cmpL d t.data) (ordL ks t.kids)))
def ordL : List Tm → List Tm → Int
  | [], l => if l.length = 0 then 0 else -1
  | k :: ks, l => match l with
    | [] => 1
    | m :: ms => or0 (ordT k m) (ordL ks ms)
end
def Sg (r : Int) : Prop := r = -1 ∨ r = 0 ∨ r = 1
theorem cmpI_sg (a b : Int) : Sg (cmpI a b) := by unfold Sg cmpI; split <;> (try split) <;> omega
theorem or0_sg {a b : Int} (h : Sg a) (k : Sg b) : Sg (or0 a b) := by unfold or0; split <;> assumption
theorem cmpL_sg : ∀ x y : List Int, Sg (cmpL x y)
  | [], [] => by unfold cmpL Sg; omega
  | [], _ :: _ => by unfold cmpL Sg; omega
  | _ :: _, [] => by unfold cmpL Sg; omega
  | a :: x, b :: y => by
    unfold cmpL
    split
    · exact cmpL_sg x y
    · exact cmpI_sg a b
mutual
theorem ordT_sg : ∀ t u : Tm, Sg (ordT t u)
  | .mk o m d ks, u => by unfold ordT; exact or0_sg (cmpI_sg _ _) (or0_sg (cmpI_sg _ _) (or0_sg (cmpL_sg _ _) (ordL_sg ks u.kids)))
theorem ordL_sg : ∀ ks l : List Tm, Sg (ordL ks l)
  | [], l => by unfold ordL Sg; split <;> omega
  | k :: ks, [] => by unfold ordL Sg; simp
  | k :: ks, m :: ms => by unfold ordL; exact or0_sg (ordT_sg k m) (ordL_sg ks ms)
end
theorem ordL_nil (l : List Tm) : ordL [] l = if l.length = 0 then 0 else -1 := by unfold ordL; rfl
theorem ordL_end (k : Tm) (ks : List Tm) : ordL (k :: ks) [] = 1 := by unfold ordL; rfl
theorem ordL_cons (k m : Tm) (ks ms : List Tm) : ordL (k :: ks) (m :: ms) = or0 (ordT k m) (ordL ks ms) := by conv => lhs; unfold ordL
/-! ### The library's word on bytes -/
def cmp8 : List UInt8 → List UInt8 → Int
  | [], [] => 0
  | [], _ :: _ => -1
  | _ :: _, [] => 1
  | a :: x, b :: y => if a = b then cmp8 x y else if a < b then -1 else 1
theorem cmp8_pre : ∀ (i : Nat) (l m : List UInt8), i < l.length → i < m.length → (∀ j, j < i → l.getD j 0 = m.getD j 0) → l.getD i 0 ≠ m.getD i 0 → cmp8 l m = if l.getD i 0 < m.getD i 0 then -1 else 1
  | _, [], _, h, _, _, _ => by simp at h
  | _, _ :: _, [], _, h, _, _ => by simp at h
  | 0, a :: x, b :: y, _, _, _, hne => by
    unfold cmp8
    rw [if_neg (by simpa using hne)]
    simp
  | i + 1, a :: x, b :: y, h1, h2, he, hne => by
    unfold cmp8
    have := he 0 (by omega)
    rw [if_pos (by simpa using this)]
    have ih := cmp8_pre i x y (by simpa using h1) (by simpa using h2) (fun j hj => by simpa using he (j + 1) (by omega)) (by simpa using hne)
    rw [ih]; simp
theorem cmp8_all : ∀ (l m : List UInt8), (∀ j, j < min l.length m.length → l.getD j 0 = m.getD j 0) → cmp8 l m = if l.length < m.length then -1 else if m.length < l.length then 1 else 0
  | [], [], _ => by unfold cmp8; simp
  | [], _ :: _, _ => by unfold cmp8; simp
  | _ :: _, [], _ => by unfold cmp8; simp
  | a :: x, b :: y, h => by
    unfold cmp8
    have h0 := h 0 (by simp)
    rw [if_pos (by simpa using h0)]
    rw [cmp8_all x y fun j hj => by simpa using h (j + 1) (by simp at hj ⊢; omega)]
    simp
theorem cmp_eq (A B : ByteArray) : Extern.BytealgCompare.cmp A B = cmp8 A.data.toList B.data.toList := by
  have za : A.data.toList.length = A.size := Array.length_toList
  have zb : B.data.toList.length = B.size := Array.length_toList
  unfold Extern.BytealgCompare.cmp
  split
  · rename_i i h
    obtain ⟨h1, h2, h3⟩ := ndc.find_range_some h
    have hne : A.data.toList.getD i 0 ≠ B.data.toList.getD i 0 := by rw [← ndc.get_getD, ← ndc.get_getD]; simpa using h2
    rw [cmp8_pre i _ _ (by omega) (by omega) (fun j hj => by rw [← ndc.get_getD, ← ndc.get_getD]; simpa using h3 j hj) hne, ndc.get_getD, ndc.get_getD]
  · rename_i h
    have h2 := ndc.find_range_none h
    rw [cmp8_all _ _ fun j hj => by have := h2 j (by omega); rw [← ndc.get_getD, ← ndc.get_getD]; simpa using this, za, zb]
theorem cmp8_num {x y : Int} (hx : 0 ≤ x ∧ x ≤ 255) (hy : 0 ≤ y ∧ y ≤ 255) : (UInt8.ofNat x.toNat = UInt8.ofNat y.toNat ↔ x = y) ∧ (UInt8.ofNat x.toNat < UInt8.ofNat y.toNat ↔ x < y) := by
  constructor
  · constructor
    · intro h
      have := congrArg UInt8.toNat h
      simp [UInt8.toNat_ofNat'] at this
      omega
    · intro h; rw [h]
  · rw [UInt8.lt_iff_toNat_lt]
    simp [UInt8.toNat_ofNat']
    omega
theorem cmp8_L : ∀ (xs ys : List Int), Fit xs → Fit ys → cmp8 (Lib.bytesOf xs) (Lib.bytesOf ys) = cmpL xs ys
  | [], [], _, _ => rfl
  | [], _ :: _, _, _ => rfl
  | _ :: _, [], _, _ => rfl
  | a :: x, b :: y, h, k => by
    have ih := cmp8_L x y (fun z hz => h z (List.mem_cons_of_mem _ hz)) (fun z hz => k z (List.mem_cons_of_mem _ hz))
    have ha := h a (by simp)
    have hb := k b (by simp)
    obtain ⟨n1, n2⟩ := cmp8_num ha hb
    show cmp8 (UInt8.ofNat a.toNat :: Lib.bytesOf x) (UInt8.ofNat b.toNat :: Lib.bytesOf y) = _
    unfold cmp8 cmpL
    rw [ih]
    by_cases e : a = b
    · rw [if_pos (n1.2 e), if_pos e]
    · rw [if_neg (fun h => e (n1.1 h)), if_neg e]
      unfold cmpI
      by_cases l : a < b
      · rw [if_pos (n2.2 l), if_pos l]
      · rw [if_neg (fun h => l (n2.1 h)), if_neg l, if_pos (by omega)]
theorem less_8 : ∀ l m : List UInt8, Op.bytesLess l m = decide (cmp8 l m = -1)
  | [], [] => by simp [Op.bytesLess, cmp8]
  | [], _ :: _ => by simp [Op.bytesLess, cmp8]
  | _ :: _, [] => by simp [Op.bytesLess, cmp8]
  | a :: x, b :: y => by
    have ih := less_8 x y
    unfold cmp8 Op.bytesLess
    by_cases h : a = b
    · subst h
      rw [if_pos rfl, ih]
      have : ¬ a < a := by simp
      simp [this]
    · rw [if_neg h]
      have h2 : (a == b) = false := by simpa using h
      rw [h2]
      by_cases l : a < b
      · simp [l]
      · simp [l]
theorem cmpI_swap (a b : Int) : cmpI b a = - cmpI a b := by unfold cmpI; split <;> (try split) <;> (try split) <;> omega
theorem cmpL_swap : ∀ x y : List Int, cmpL y x = - cmpL x y
  | [], [] => rfl
  | [], _ :: _ => rfl
  | _ :: _, [] => rfl
  | a :: x, b :: y => by
    unfold cmpL
    by_cases h : a = b
    · rw [if_pos h, if_pos h.symm]; exact cmpL_swap x y
    · rw [if_neg h, if_neg (fun e => h e.symm)]; exact cmpI_swap a b
theorem str_less {xs ys : List Int} (h : Fit xs) (k : Fit ys) : Op.bytesLess (strOfNums xs).toList (strOfNums ys).toList = decide (cmpL xs ys = -1) := by
  rw [Lib.strOfNums_toList, Lib.strOfNums_toList, less_8, cmp8_L xs ys h k]
theorem cmp_L {xs ys : List Int} (h : Fit xs) (k : Fit ys) : Extern.BytealgCompare.cmp (strOfNums xs) (strOfNums ys) = cmpL xs ys := by
  rw [cmp_eq]
  exact cmp8_L xs ys h k
theorem or0_swap (a b : Int) : or0 (-a) (-b) = - or0 a b := by unfold or0; split <;> split <;> omega
mutual
theorem ordT_swap : ∀ t u : Tm, ordT u t = - ordT t u
  | .mk o m d ks, .mk o' m' d' ks' => by
    unfold ordT
    simp only [Tm.op, Tm.num, Tm.data, Tm.kids]
    rw [cmpI_swap o o', cmpI_swap m m', cmpL_swap d d', ordL_swap ks ks', or0_swap, or0_swap, or0_swap]
theorem ordL_swap : ∀ ks l : List Tm, ordL l ks = - ordL ks l
  | [], [] => by unfold ordL; simp
  | [], _ :: _ => by rw [ordL_end, ordL_nil]; simp
  | _ :: _, [] => by rw [ordL_end, ordL_nil]; simp
  | k :: ks, m :: ms => by
    rw [ordL_cons, ordL_cons, ordT_swap k m, ordL_swap ks ms, or0_swap]
end
/-! ### Alike is alike -/
theorem cmpI_zero {a b : Int} : cmpI a b = 0 ↔ a = b := by unfold cmpI; split <;> (try split) <;> omega
theorem or0_zero {a b : Int} : or0 a b = 0 ↔ a = 0 ∧ b = 0 := by
  unfold or0
  split
  · rename_i h; simp [h]
  · rename_i h; simp [h]
theorem cmpL_zero : ∀ {x y : List Int}, cmpL x y = 0 ↔ x = y
  | [], [] => by simp [cmpL]
  | [], _ :: _ => by simp [cmpL]
  | _ :: _, [] => by simp [cmpL]
  | a :: x, b :: y => by
    unfold cmpL
    by_cases h : a = b
    · rw [if_pos h, cmpL_zero]; simp [h]
    · rw [if_neg h, cmpI_zero]; simp [h]
mutual
theorem ordT_zero : ∀ {t u : Tm}, ordT t u = 0 → t = u
  | .mk o m d ks, .mk o' m' d' ks' => by
    unfold ordT
    simp only [Tm.op, Tm.num, Tm.data, Tm.kids, or0_zero, cmpI_zero, cmpL_zero]
    rintro ⟨rfl, rfl, rfl, h⟩
    rw [ordL_zero h]
theorem ordL_zero : ∀ {ks l : List Tm}, ordL ks l = 0 → ks = l
  | [], [] => fun _ => rfl
  | [], _ :: _ => fun h => by rw [ordL_nil] at h; simp at h
  | _ :: _, [] => fun h => by rw [ordL_end] at h; simp at h
  | k :: ks, m :: ms => fun h => by
    rw [ordL_cons, or0_zero] at h
    rw [ordT_zero h.1, ordL_zero h.2]
end
mutual
theorem ordT_refl : ∀ t : Tm, ordT t t = 0
  | .mk o m d ks => by
    unfold ordT
    simp only [Tm.op, Tm.num, Tm.data, Tm.kids, or0_zero, cmpI_zero, cmpL_zero]
    simp [ordL_refl ks]
theorem ordL_refl : ∀ ks : List Tm, ordL ks ks = 0
  | [] => by unfold ordL; simp
  | k :: ks => by rw [ordL_cons, ordT_refl k, ordL_refl ks]; rfl
end
/-! ### Ahead of what is ahead -/
/-- Of three: what stands not behind, and then not behind, stands not behind; ahead if one of both is. -/
def Tri (x y z : Int) : Prop := Sg x → Sg y → Sg z → x ≤ 0 → y ≤ 0 → (z ≤ 0 ∧ (x < 0 ∨ y < 0 → z < 0))
theorem cmpI_tri (a b c : Int) : cmpI a b ≤ 0 → cmpI b c ≤ 0 → cmpI a c ≤ 0 ∧ (cmpI a b < 0 ∨ cmpI b c < 0 → cmpI a c < 0) := by
  unfold cmpI
  split <;> (try split) <;> (try split) <;> (try split) <;> (try split) <;> (try split) <;> omega
theorem or0_tri {x y z x' y' z' : Int} (sx : Sg x) (sy : Sg y) (sz : Sg z) (h : x ≤ 0 → y ≤ 0 → z ≤ 0 ∧ (x < 0 ∨ y < 0 → z < 0)) (hz : x = 0 → y = 0 → z = 0) (h' : x' ≤ 0 → y' ≤ 0 → z' ≤ 0 ∧ (x' < 0 ∨ y' < 0 → z' < 0)) :
    or0 x x' ≤ 0 → or0 y y' ≤ 0 → or0 z z' ≤ 0 ∧ (or0 x x' < 0 ∨ or0 y y' < 0 → or0 z z' < 0) := by
  unfold Sg at sx sy sz
  unfold or0
  intro h1 h2
  by_cases ex : x = 0
  · by_cases ey : y = 0
    · have ez := hz ex ey
      rw [if_pos ex] at h1
      rw [if_pos ey] at h2
      rw [if_pos ex, if_pos ey, if_pos ez]
      exact h' h1 h2
    · rw [if_neg ey] at h2
      have := h (by omega) h2
      have hz1 : z ≠ 0 := by have := this.2 (by omega); omega
      rw [if_neg hz1]
      exact ⟨this.1, fun _ => this.2 (by omega)⟩
  · rw [if_neg ex] at h1
    have hy : y ≤ 0 := by
      by_cases ey : y = 0
      · omega
      · rw [if_neg ey] at h2; exact h2
    have := h h1 hy
    have hz1 : z ≠ 0 := by have := this.2 (by omega); omega
    rw [if_neg hz1]
    exact ⟨this.1, fun _ => this.2 (by omega)⟩
theorem cmpL_tri : ∀ x y z : List Int, cmpL x y ≤ 0 → cmpL y z ≤ 0 → cmpL x z ≤ 0 ∧ (cmpL x y < 0 ∨ cmpL y z < 0 → cmpL x z < 0)
  | [], [], [] => by simp [cmpL]
  | [], [], _ :: _ => by simp [cmpL]
  | [], _ :: _, [] => by simp [cmpL]
  | [], _ :: _, _ :: _ => by simp [cmpL]
  | _ :: _, [], _ => by simp [cmpL]
  | _ :: _, _ :: _, [] => by simp [cmpL]
  | a :: x, b :: y, c :: z => by
    have e : ∀ (p q : Int) (u v : List Int), cmpL (p :: u) (q :: v) = or0 (cmpI p q) (cmpL u v) := fun p q u v => by
      conv => lhs; unfold cmpL
      unfold or0
      by_cases h : p = q
      · rw [if_pos h, if_pos (cmpI_zero.2 h)]
      · rw [if_neg h, if_neg (fun k => h (cmpI_zero.1 k))]
    rw [e, e, e]
    exact or0_tri (cmpI_sg _ _) (cmpI_sg _ _) (cmpI_sg _ _) (cmpI_tri a b c) (fun h k => by rw [cmpI_zero] at *; omega) (cmpL_tri x y z)
mutual
theorem ordT_tri : ∀ t u v : Tm, ordT t u ≤ 0 → ordT u v ≤ 0 → ordT t v ≤ 0 ∧ (ordT t u < 0 ∨ ordT u v < 0 → ordT t v < 0)
  | .mk o m d ks, .mk o' m' d' ks', .mk o'' m'' d'' ks'' => by
    unfold ordT
    simp only [Tm.op, Tm.num, Tm.data, Tm.kids]
    refine or0_tri (cmpI_sg _ _) (cmpI_sg _ _) (cmpI_sg _ _) (cmpI_tri _ _ _) (fun h k => by rw [cmpI_zero] at *; omega) ?_
    refine or0_tri (cmpI_sg _ _) (cmpI_sg _ _) (cmpI_sg _ _) (cmpI_tri _ _ _) (fun h k => by rw [cmpI_zero] at *; omega) ?_
    exact or0_tri (cmpL_sg _ _) (cmpL_sg _ _) (cmpL_sg _ _) (cmpL_tri _ _ _) (fun h k => by rw [cmpL_zero] at *; rw [h, k]) (ordL_tri ks ks' ks'')
theorem ordL_tri : ∀ x y z : List Tm, ordL x y ≤ 0 → ordL y z ≤ 0 → ordL x z ≤ 0 ∧ (ordL x y < 0 ∨ ordL y z < 0 → ordL x z < 0)
  | [], [], z => by simp [ordL_nil]
  | [], _ :: _, [] => by simp [ordL_nil, ordL_end]
  | [], _ :: _, _ :: _ => by simp [ordL_nil]
  | _ :: _, [], _ => by simp [ordL_end]
  | _ :: _, _ :: _, [] => by simp [ordL_end]
  | a :: x, b :: y, c :: z => by
    rw [ordL_cons, ordL_cons, ordL_cons]
    exact or0_tri (ordT_sg _ _) (ordT_sg _ _) (ordT_sg _ _) (ordT_tri a b c) (fun h k => by rw [ordT_zero h, ordT_zero k]; exact ordT_refl _) (ordL_tri x y z)
end
end Go.Proofs.YtlnclgpbobaedaaDoor.tmc
