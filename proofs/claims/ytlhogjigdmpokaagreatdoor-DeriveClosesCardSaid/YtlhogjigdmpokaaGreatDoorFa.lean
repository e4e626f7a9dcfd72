/- What can be had, told by ways: once all that a way needs is had, so is all that it gives. Plain. Nothing here names the program. The ways of a table of terms: they tell its closure. Plain. Nothing here names the program. A range over a function whose iterator reads what the rounds write: the law for the caller, by the number of the rounds. Nothing here names the program. -/
import Derived.Test.YtlhogjigdmpokaaGreatDoorDp
import Derived.RangeFuncNested
import Derived.RangeFuncLeaves
import Derived.Test.YtlhogjigdmpokaaGreatDoorTa
namespace Go.Proofs.YtlhogjigdmpokaaGreatDoor.vtc
open Go.RowKit Go.Proofs.YtlhogjigdmpokaaGreatDoor.tlvc Go.Proofs.YtlhogjigdmpokaaGreatDoor.tmc
set_option linter.unusedVariables false
structure Way where
  needs : List Int
  gives : List Int
/-- One row of truths lies within another. -/
def Sub (a b : List Bool) : Prop := a.length = b.length ∧ ∀ n, SB a n → SB b n
theorem Sub.refl (a : List Bool) : Sub a a := ⟨rfl, fun _ h => h⟩
theorem Sub.trans {a b c : List Bool} (h : Sub a b) (k : Sub b c) : Sub a c := ⟨h.1.trans k.1, fun n hn => k.2 n (h.2 n hn)⟩
theorem sb_cons (x : Bool) (l : List Bool) (n : Nat) : SB (x :: l) (n + 1) ↔ SB l n := Iff.rfl
theorem sb_zero (x : Bool) (l : List Bool) : SB (x :: l) 0 ↔ x = true := Iff.rfl
theorem Sub.tail {x y : Bool} {a b : List Bool} (h : Sub (x :: a) (y :: b)) : Sub a b := ⟨by simpa using h.1, fun n hn => h.2 (n + 1) hn⟩
theorem sub_lack : ∀ {a b : List Bool}, Sub a b → lackB b ≤ lackB a ∧ (a ≠ b → lackB b < lackB a)
  | [], [], _ => ⟨Nat.le_refl _, fun h => absurd rfl h⟩
  | [], _ :: _, h => by have := h.1; simp at this
  | _ :: _, [], h => by have := h.1; simp at this
  | x :: a, y :: b, h => by
    obtain ⟨h1, h2⟩ := sub_lack h.tail
    have h0 := h.2 0
    unfold lackB at h1 h2 ⊢
    rw [List.countP_cons, List.countP_cons]
    cases x <;> cases y
    · exact ⟨by simp; exact h1, fun hne => by simp; exact h2 fun e => hne (by rw [e])⟩
    · exact ⟨by simp; omega, fun hne => by simp; omega⟩
    · exact absurd (h0 rfl) (by unfold SB; simp)
    · exact ⟨by simp; exact h1, fun hne => by simp; exact h2 fun e => hne (by rw [e])⟩
theorem sub_eq {a b : List Bool} (h : Sub a b) (k : ∀ n, SB b n → SB a n) : a = b := by
  refine List.ext_getElem h.1 fun n h1 h2 => ?_
  have e1 : a.getD n false = a[n] := by rw [List.getD_eq_getElem?_getD, List.getElem?_eq_getElem h1]; rfl
  have e2 : b.getD n false = b[n] := by rw [List.getD_eq_getElem?_getD, List.getElem?_eq_getElem h2]; rfl
  rw [← e1, ← e2, Bool.eq_iff_iff]
  exact ⟨h.2 n, k n⟩
/-- Some are had from then on. -/
def haveF (hb : List Bool) (xs : List Int) : List Bool := xs.foldl (fun h x => if 0 ≤ x ∧ x < (h.length : Int) then h.set x.toNat true else h) hb
theorem have_nil (hb : List Bool) : haveF hb [] = hb := rfl
theorem have_len (hb : List Bool) (xs : List Int) : (haveF hb xs).length = hb.length := by
  unfold haveF
  induction xs generalizing hb with
  | nil => rfl
  | cons x xs ih =>
    rw [List.foldl_cons, ih]
    split
    · exact List.length_set
    · rfl
theorem have_snoc (hb : List Bool) (xs : List Int) (x : Int) : haveF hb (xs ++ [x]) = if 0 ≤ x ∧ x < (hb.length : Int) then (haveF hb xs).set x.toNat true else haveF hb xs := by
  have h := have_len hb xs
  unfold haveF at h ⊢
  rw [List.foldl_append, List.foldl_cons, List.foldl_nil, h]
theorem have_sb {hb : List Bool} {xs : List Int} {n : Nat} : SB (haveF hb xs) n ↔ SB hb n ∨ ((n : Int) ∈ xs ∧ n < hb.length) := by
  induction xs generalizing hb with
  | nil => exact ⟨.inl, fun h => h.elim id fun h => by simp at h⟩
  | cons x xs ih =>
    show SB (haveF (if 0 ≤ x ∧ x < (hb.length : Int) then hb.set x.toNat true else hb) xs) n ↔ _
    rw [ih]
    by_cases hx : 0 ≤ x ∧ x < (hb.length : Int)
    · rw [if_pos hx, SB.set (by omega), List.length_set, List.mem_cons]
      constructor
      · rintro ((rfl | h) | h)
        · exact .inr ⟨.inl (by omega), by omega⟩
        · exact .inl h
        · exact .inr ⟨.inr h.1, h.2⟩
      · rintro (h | ⟨h | h, h2⟩)
        · exact .inl (.inr h)
        · exact .inl (.inl (by omega))
        · exact .inr ⟨h, h2⟩
    · rw [if_neg hx, List.mem_cons]
      constructor
      · rintro (h | h)
        · exact .inl h
        · exact .inr ⟨.inr h.1, h.2⟩
      · rintro (h | ⟨h | h, h2⟩)
        · exact .inl h
        · exact absurd ⟨by omega, by omega⟩ hx
        · exact .inr ⟨h, h2⟩
theorem have_sub (hb : List Bool) (xs : List Int) : Sub hb (haveF hb xs) := ⟨(have_len hb xs).symm, fun n h => have_sb.2 (.inl h)⟩
/-- One more is found. -/
theorem have_hit {hb : List Bool} {xs : List Int} {x : Int} (h0 : 0 ≤ x) (h1 : x < (hb.length : Int)) (h : (haveF hb xs).getD x.toNat false = false) : haveF hb (xs ++ [x]) = (haveF hb xs).set x.toNat true ∧ haveF hb (xs ++ [x]) ≠ hb := by
  have e : haveF hb (xs ++ [x]) = (haveF hb xs).set x.toNat true := by rw [have_snoc, if_pos ⟨h0, h1⟩]
  refine ⟨e, fun e2 => ?_⟩
  have h2 : SB (haveF hb (xs ++ [x])) x.toNat := by rw [e]; exact (SB.set (by rw [have_len]; omega)).2 (.inl rfl)
  rw [e2] at h2
  have h3 := (have_sub hb xs).2 _ h2
  unfold SB at h3
  rw [h] at h3
  cases h3
/-- Nothing new. -/
theorem have_miss {hb : List Bool} {xs : List Int} {x : Int} (h : ¬ (0 ≤ x ∧ x < (hb.length : Int)) ∨ (haveF hb xs).getD x.toNat false = true) : haveF hb (xs ++ [x]) = haveF hb xs := by
  rw [have_snoc]
  by_cases hx : 0 ≤ x ∧ x < (hb.length : Int)
  · rw [if_pos hx]
    rcases h with h | h
    · exact absurd hx h
    · refine (sub_eq ⟨List.length_set.symm, fun n hn => (SB.set (by rw [have_len]; omega)).2 (.inr hn)⟩ fun n hn => ?_).symm
      rcases (SB.set (by rw [have_len]; omega)).1 hn with rfl | hn
      · exact h
      · exact hn
  · rw [if_neg hx]
/-- Does a way hold within S? -/
def WayIn (N : Nat) (S : Nat → Prop) (w : Way) : Prop := (∀ m ∈ w.needs, S m.toNat) → ∀ g ∈ w.gives, 0 ≤ g → g < (N : Int) → S g.toNat
/-- How many needs of a way are not told of. -/
def lackW (td : List Bool) (w : Way) : Nat := w.needs.countP fun m => !td.getD m.toNat false
theorem lack_zero {td : List Bool} {w : Way} : lackW td w = 0 ↔ ∀ m ∈ w.needs, SB td m.toNat := by
  unfold lackW SB
  rw [List.countP_eq_zero]
  refine ⟨fun h m hm => ?_, fun h m hm => ?_⟩
  · have := h m hm
    simpa using this
  · rw [h m hm]; simp
theorem lack_told {td : List Bool} {w : Way} {n : Nat} (hn : n < td.length) (h0 : td.getD n false = false) (hw : ∀ m ∈ w.needs, 0 ≤ m) : lackW (td.set n true) w + w.needs.count (n : Int) = lackW td w := by
  unfold lackW
  have key : ∀ l : List Int, (∀ m ∈ l, 0 ≤ m) → l.countP (fun m => !(td.set n true).getD m.toNat false) + l.count (n : Int) = l.countP (fun m => !td.getD m.toNat false) := fun l => by
    induction l with
    | nil => intro _; rfl
    | cons x l ih =>
      intro hl
      have h1 := ih fun m hm => hl m (List.mem_cons_of_mem _ hm)
      have hx := hl x (by simp)
      rw [List.countP_cons, List.countP_cons, List.count_cons]
      by_cases e : x = (n : Int)
      · subst e
        have e1 : (td.set n true).getD (n : Int).toNat false = true := by
          rw [Int.toNat_natCast, List.getD_eq_getElem?_getD, List.getElem?_set_self hn]; rfl
        rw [e1, Int.toNat_natCast, h0, if_neg (by simp), if_pos (by simp), if_pos (by simp)]
        omega
      · have e1 : (td.set n true).getD x.toNat false = td.getD x.toNat false := by
          rw [List.getD_eq_getElem?_getD, List.getD_eq_getElem?_getD, List.getElem?_set_ne (by omega)]
        rw [e1, if_neg (show ¬ (x == (n : Int)) = true by simp [e])]
        omega
  exact key w.needs hw
/-- In the midst of telling: what a way still lacks. -/
def lkF (td : List Bool) (WS : List Way) (row : List Nat) (k j : Nat) : Nat := (match WS[j]? with | some w => lackW td w | none => 0) + (row.drop k).count j
theorem lk_end {td : List Bool} {WS : List Way} {row : List Nat} {j : Nat} {w : Way} (h : WS[j]? = some w) : lkF td WS row row.length j = lackW td w := by
  unfold lkF
  rw [h, List.drop_length]
  rfl
theorem lk_step {td : List Bool} {WS : List Way} {row : List Nat} {k j : Nat} (h : row[k]? = some j) (i : Nat) : lkF td WS row k i = lkF td WS row (k + 1) i + if i = j then 1 else 0 := by
  obtain ⟨hk, rfl⟩ := List.getElem?_eq_some_iff.1 h
  unfold lkF
  rw [List.drop_eq_getElem_cons hk, List.count_cons]
  by_cases e : i = row[k]
  · rw [if_pos e, if_pos (by simp [e])]; omega
  · rw [if_neg e, if_neg (by simp; exact fun h => e h.symm)]; omega
/-- The rows of the ways by what they need. -/
def RowsOk (WS : List Way) (RJ : Nat → List Nat) : Prop := ∀ i, (∀ j ∈ RJ i, j < WS.length) ∧ ∀ j w, WS[j]? = some w → (RJ i).count j = w.needs.count (i : Int)
theorem lk_start {td : List Bool} {WS : List Way} {RJ : Nat → List Nat} (hR : RowsOk WS RJ) {n : Nat} (hn : n < td.length) (h0 : td.getD n false = false) {j : Nat} {w : Way} (h : WS[j]? = some w) (hw : ∀ m ∈ w.needs, 0 ≤ m) : lkF (td.set n true) WS (RJ n) 0 j = lackW td w := by
  unfold lkF
  rw [h, List.drop_zero, (hR n).2 j w h]
  exact lack_told hn h0 hw
/-- In the midst of telling: what is had. -/
structure TI (N : Nat) (WS : List Way) (hd td : List Bool) (row : List Nat) (k : Nat) (h : List Bool) : Prop where
  sub : Sub hd h
  clo : ∀ j w, WS[j]? = some w → lkF td WS row k j = 0 → ∀ g ∈ w.gives, 0 ≤ g → g < (N : Int) → SB h g.toNat
  snd : ∀ S : Nat → Prop, (∀ w ∈ WS, WayIn N S w) → (∀ n, SB hd n → S n) → ∀ n, SB h n → S n
theorem TI.less {N : Nat} {WS : List Way} {hd td : List Bool} {row : List Nat} {k : Nat} {h : List Bool} (t : TI N WS hd td row k h) {j : Nat} (hj : row[k]? = some j) (hne : lkF td WS row (k + 1) j ≠ 0) : TI N WS hd td row (k + 1) h :=
  ⟨t.sub, fun i w hw hz => t.clo i w hw (by
    rw [lk_step hj i, hz]
    by_cases e : i = j
    · subst e; exact absurd hz hne
    · rw [if_neg e]), t.snd⟩
theorem TI.more {N : Nat} {WS : List Way} {hd td : List Bool} {row : List Nat} {k : Nat} {h : List Bool} (t : TI N WS hd td row k h) {j : Nat} {w : Way} (hj : row[k]? = some j) (hw : WS[j]? = some w) (hz : lkF td WS row (k + 1) j = 0) (hN : h.length = N) (htd : ∀ n, SB td n → SB hd n) : TI N WS hd td row (k + 1) (haveF h w.gives) :=
  ⟨t.sub.trans (have_sub _ _), fun i v hv hi g hg h0 h1 => by
    by_cases e : i = j
    · subst e
      rw [hw] at hv
      cases hv
      exact have_sb.2 (.inr ⟨by rw [Int.toNat_of_nonneg h0]; exact hg, by omega⟩)
    · exact have_sb.2 (.inl (t.clo i v hv (by rw [lk_step hj i, hi, if_neg e]) g hg h0 h1)), fun S hS hhd n hn => by
    rcases have_sb.1 hn with h1 | ⟨h1, h2⟩
    · exact t.snd S hS hhd n h1
    · have hl : lackW td w = 0 := by
        have : lkF td WS row (k + 1) j = 0 := hz
        unfold lkF at this
        rw [hw] at this
        have h3 : lackW td w + (row.drop (k + 1)).count j = 0 := this
        omega
      have := hS w (List.mem_of_getElem? hw) (fun m hm => hhd _ (htd _ (lack_zero.1 hl m hm))) n h1 (by omega) (by omega)
      rwa [Int.toNat_natCast] at this⟩
/-- Between two that are told. -/
structure SI (N : Nat) (WS : List Way) (h0 hd td : List Bool) : Prop where
  lh : hd.length = N
  lt : td.length = N
  told : ∀ n, SB td n → SB hd n
  sub : Sub h0 hd
  clo : ∀ w ∈ WS, lackW td w = 0 → ∀ g ∈ w.gives, 0 ≤ g → g < (N : Int) → SB hd g.toNat
  snd : ∀ S : Nat → Prop, (∀ w ∈ WS, WayIn N S w) → (∀ n, SB h0 n → S n) → ∀ n, SB hd n → S n
theorem SI.start {N : Nat} {WS : List Way} {RJ : Nat → List Nat} {h0 hd td : List Bool} (s : SI N WS h0 hd td) (hR : RowsOk WS RJ) (hpos : ∀ w ∈ WS, ∀ m ∈ w.needs, 0 ≤ m) {n : Nat} (hn : SB hd n) (ht : td.getD n false = false) : TI N WS hd (td.set n true) (RJ n) 0 hd :=
  ⟨Sub.refl _, fun j w hw hz => s.clo w (List.mem_of_getElem? hw) (by
    rw [lk_start hR (by rw [s.lt, ← s.lh]; exact hn.lt) ht hw (hpos w (List.mem_of_getElem? hw))] at hz
    exact hz), fun S _ h => h⟩
theorem SI.fin {N : Nat} {WS : List Way} {h0 hd td h : List Bool} {n : Nat} {row : List Nat} (s : SI N WS h0 hd td) (hn : SB hd n) (t : TI N WS hd (td.set n true) row row.length h) : SI N WS h0 h (td.set n true) :=
  ⟨t.sub.1.symm.trans s.lh, List.length_set.trans s.lt, fun m hm => by
    rcases (SB.set (by rw [s.lt, ← s.lh]; exact hn.lt)).1 hm with rfl | hm
    · exact t.sub.2 _ hn
    · exact t.sub.2 _ (s.told m hm), s.sub.trans t.sub, fun w hw hz => by
    obtain ⟨j, hj⟩ := List.getElem?_of_mem hw
    exact t.clo j w hj (by rw [lk_end hj]; exact hz), fun S hS h1 m hm => t.snd S hS (s.snd S hS h1) m hm⟩
/-- With all told, what is had is closed. -/
theorem SI.closed {N : Nat} {WS : List Way} {h0 hd td : List Bool} (s : SI N WS h0 hd td) (h : ∀ n, SB hd n → SB td n) : ∀ w ∈ WS, WayIn N (SB hd) w :=
  fun w hw hm => s.clo w hw (lack_zero.2 fun m hm' => h _ (hm m hm'))
/-- The ways that stand in the lists, and those that were taken at once, are these. -/
def Adds (N : Nat) (AP : Way → Prop) (WS : List Way) (hd : List Bool) : Prop := ∀ S : Nat → Prop, (∀ w, AP w → WayIn N S w) ↔ (∀ w ∈ WS, WayIn N S w) ∧ ∀ n, SB hd n → S n
theorem Adds.now {N : Nat} {AP : Way → Prop} {WS : List Way} {hd : List Bool} (h : Adds N AP WS hd) (hl : hd.length = N) (gives : List Int) : Adds N (fun w => AP w ∨ w = ⟨[], gives⟩) WS (haveF hd gives) := fun S => by
  constructor
  · intro k
    obtain ⟨h1, h2⟩ := (h S).1 fun w hw => k w (.inl hw)
    refine ⟨h1, fun n hn => ?_⟩
    rcases have_sb.1 hn with hn | ⟨hn, hlt⟩
    · exact h2 n hn
    · have := k _ (.inr rfl) (fun m hm => by simp at hm) n hn (by omega) (by omega)
      rwa [Int.toNat_natCast] at this
  · rintro ⟨k1, k2⟩ w (hw | rfl)
    · exact (h S).2 ⟨k1, fun n hn => k2 n (have_sb.2 (.inl hn))⟩ w hw
    · intro _ g hg h0 h1
      exact k2 _ (have_sb.2 (.inr ⟨by rw [Int.toNat_of_nonneg h0]; exact hg, by omega⟩))
theorem Adds.later {N : Nat} {AP : Way → Prop} {WS : List Way} {hd : List Bool} (h : Adds N AP WS hd) (v : Way) : Adds N (fun w => AP w ∨ w = v) (WS ++ [v]) hd := fun S => by
  constructor
  · intro k
    obtain ⟨h1, h2⟩ := (h S).1 fun w hw => k w (.inl hw)
    refine ⟨fun w hw => ?_, h2⟩
    rcases List.mem_append.1 hw with hw | hw
    · exact h1 w hw
    · rw [List.mem_singleton.1 hw]
      exact k v (.inr rfl)
  · rintro ⟨k1, k2⟩ w (hw | rfl)
    · exact (h S).2 ⟨fun w hw => k1 w (List.mem_append_left _ hw), k2⟩ w hw
    · exact k1 w (by simp)
theorem Adds.same {N : Nat} {AP AP' : Way → Prop} {WS : List Way} {hd : List Bool} (h : Adds N AP WS hd) (e : ∀ w, AP w ↔ AP' w) : Adds N AP' WS hd := by
  have : AP = AP' := funext fun w => propext (e w)
  exact this ▸ h
theorem Adds.none (N : Nat) : Adds N (fun _ => False) [] (List.replicate N false) := fun S =>
  ⟨fun _ => ⟨fun w hw => by simp at hw, fun n hn => by
    unfold SB at hn
    rw [List.getD_eq_getElem?_getD, List.getElem?_replicate] at hn
    split at hn <;> cases hn⟩, fun _ w hw => hw.elim⟩
/-- One way more in the lists. -/
theorem RowsOk.more {WS : List Way} {RJ : Nat → List Nat} (h : RowsOk WS RJ) (v : Way) : RowsOk (WS ++ [v]) (fun i => RJ i ++ List.replicate (v.needs.count (i : Int)) WS.length) := fun i => by
  refine ⟨fun j hj => ?_, fun j w hw => ?_⟩
  · rw [List.length_append]
    rcases List.mem_append.1 hj with hj | hj
    · have := (h i).1 j hj
      omega
    · rw [(List.mem_replicate.1 hj).2]
      simp
  · rw [List.count_append]
    by_cases hl : j < WS.length
    · rw [List.getElem?_append_left hl] at hw
      rw [(h i).2 j w hw, List.count_replicate, if_neg (by simp; omega)]
      rfl
    · have hj : j = WS.length := by
        have := (List.getElem?_eq_some_iff.1 hw).1
        rw [List.length_append] at this
        simp at this
        omega
      subst hj
      rw [List.getElem?_append_right (Nat.le_refl _), Nat.sub_self] at hw
      cases hw
      rw [List.count_eq_zero.2 fun hm => by have := (h i).1 _ hm; omega, List.count_replicate, if_pos (by simp)]
      omega
end Go.Proofs.YtlhogjigdmpokaaGreatDoor.vtc
namespace Go.Proofs.YtlhogjigdmpokaaGreatDoor.vtc
open Go.RowKit Go.Proofs.YtlhogjigdmpokaaGreatDoor.tlvc Go.Proofs.YtlhogjigdmpokaaGreatDoor.tmc
set_option linter.unusedVariables false
/-- Those of a list that a choice takes. -/
def selF {α : Type} : Nat → List α → List α
  | _, [] => []
  | c, x :: l => if c % 2 = 1 then x :: selF (c / 2) l else selF (c / 2) l
/-- The others. -/
def unF {α : Type} : Nat → List α → List α
  | _, [] => []
  | c, x :: l => if c % 2 = 1 then unF (c / 2) l else x :: unF (c / 2) l
section
variable {α β : Type}
theorem sel_snoc (x : α) : ∀ (l : List α) (c : Nat), selF c (l ++ [x]) = selF c l ++ (if c / 2 ^ l.length % 2 = 1 then [x] else [])
  | [], c => by
    show (if c % 2 = 1 then [x] else []) = [] ++ (if c / 2 ^ 0 % 2 = 1 then [x] else [])
    rw [Nat.pow_zero, Nat.div_one, List.nil_append]
  | y :: l, c => by
    have ih := sel_snoc x l (c / 2)
    rw [Nat.div_div_eq_div_mul, ← Nat.pow_succ'] at ih
    show (if c % 2 = 1 then y :: selF (c / 2) (l ++ [x]) else selF (c / 2) (l ++ [x])) = (if c % 2 = 1 then y :: selF (c / 2) l else selF (c / 2) l) ++ _
    rw [ih, List.length_cons]
    split <;> rfl
theorem un_snoc (x : α) : ∀ (l : List α) (c : Nat), unF c (l ++ [x]) = unF c l ++ (if c / 2 ^ l.length % 2 = 1 then [] else [x])
  | [], c => by
    show (if c % 2 = 1 then [] else [x]) = [] ++ (if c / 2 ^ 0 % 2 = 1 then [] else [x])
    rw [Nat.pow_zero, Nat.div_one, List.nil_append]
  | y :: l, c => by
    have ih := un_snoc x l (c / 2)
    rw [Nat.div_div_eq_div_mul, ← Nat.pow_succ'] at ih
    show (if c % 2 = 1 then unF (c / 2) (l ++ [x]) else y :: unF (c / 2) (l ++ [x])) = (if c % 2 = 1 then unF (c / 2) l else y :: unF (c / 2) l) ++ _
    rw [ih, List.length_cons]
    split <;> rfl
theorem sel_map (f : α → β) : ∀ (l : List α) (c : Nat), selF c (l.map f) = (selF c l).map f
  | [], _ => rfl
  | x :: l, c => by
    show (if c % 2 = 1 then f x :: selF (c / 2) (l.map f) else selF (c / 2) (l.map f)) = (if c % 2 = 1 then x :: selF (c / 2) l else selF (c / 2) l).map f
    rw [sel_map f l (c / 2)]
    split <;> rfl
theorem un_map (f : α → β) : ∀ (l : List α) (c : Nat), unF c (l.map f) = (unF c l).map f
  | [], _ => rfl
  | x :: l, c => by
    show (if c % 2 = 1 then unF (c / 2) (l.map f) else f x :: unF (c / 2) (l.map f)) = (if c % 2 = 1 then unF (c / 2) l else x :: unF (c / 2) l).map f
    rw [un_map f l (c / 2)]
    split <;> rfl
theorem sel_perm : ∀ (l : List α) (c : Nat), l.Perm (selF c l ++ unF c l)
  | [], _ => List.Perm.nil
  | x :: l, c => by
    have ih := sel_perm l (c / 2)
    show (x :: l).Perm ((if c % 2 = 1 then x :: selF (c / 2) l else selF (c / 2) l) ++ (if c % 2 = 1 then unF (c / 2) l else x :: unF (c / 2) l))
    split
    · exact ih.cons x
    · exact (ih.cons x).trans List.perm_middle.symm
theorem sel_len (l : List α) (c : Nat) : (selF c l).length + (unF c l).length = l.length := by
  have := (sel_perm l c).length_eq
  rw [List.length_append] at this
  exact this.symm
theorem sel_mem {l : List α} {c : Nat} {x : α} (h : x ∈ selF c l) : x ∈ l := (sel_perm l c).mem_iff.2 (List.mem_append_left _ h)
theorem un_mem {l : List α} {c : Nat} {x : α} (h : x ∈ unF c l) : x ∈ l := (sel_perm l c).mem_iff.2 (List.mem_append_right _ h)
end
theorem sel_none (l : List Tm) : selF 0 l = [] ∧ unF 0 l = l := by
  induction l with
  | nil => exact ⟨rfl, rfl⟩
  | cons x l ih =>
    show (if 0 % 2 = 1 then x :: selF (0 / 2) l else selF (0 / 2) l) = [] ∧ (if 0 % 2 = 1 then unF (0 / 2) l else x :: unF (0 / 2) l) = x :: l
    rw [if_neg (by omega), if_neg (by omega), Nat.zero_div, ih.1, ih.2]
    exact ⟨rfl, rfl⟩
/-- Some of a list in order, and in order themselves: a choice takes just them. -/
theorem sel_ex : ∀ (ks ks' rest : List Tm), ks.Pairwise Le → ks'.Pairwise Le → ks.Perm (ks' ++ rest) → ∃ c, c < 2 ^ ks.length ∧ selF c ks = ks' ∧ (unF c ks).Perm rest
  | [], ks', rest, _, _, hp => by
    have h := List.nil_perm.1 hp
    obtain ⟨rfl, rfl⟩ := List.append_eq_nil_iff.1 h
    exact ⟨0, by decide, rfl, List.Perm.nil⟩
  | x :: t, [], rest, h1, h2, hp => ⟨0, Nat.two_pow_pos _, (sel_none _).1, by rw [(sel_none _).2]; exact hp⟩
  | x :: t, y :: s, rest, h1, h2, hp => by
    obtain ⟨h3, h4⟩ := List.pairwise_cons.1 h1
    obtain ⟨h5, h6⟩ := List.pairwise_cons.1 h2
    by_cases e : x = y
    · subst e
      obtain ⟨c, hc, e1, e2⟩ := sel_ex t s rest h4 h6 (List.Perm.cons_inv hp)
      refine ⟨2 * c + 1, by rw [List.length_cons, Nat.pow_succ]; omega, ?_, ?_⟩
      · show (if (2 * c + 1) % 2 = 1 then x :: selF ((2 * c + 1) / 2) t else _) = _
        rw [if_pos (by omega), show (2 * c + 1) / 2 = c from by omega, e1]
      · show (if (2 * c + 1) % 2 = 1 then unF ((2 * c + 1) / 2) t else _).Perm rest
        rw [if_pos (by omega), show (2 * c + 1) / 2 = c from by omega]
        exact e2
    · have hxr : x ∈ rest := by
        have hx : x ∈ (y :: s) ++ rest := hp.mem_iff.1 (by simp)
        rcases List.mem_append.1 hx with hx | hx
        · exfalso
          have hyx : Le y x := by
            rcases List.mem_cons.1 hx with e2 | hx
            · exact absurd e2 e
            · exact h5 x hx
          have hy : y ∈ x :: t := hp.mem_iff.2 (by simp)
          have hxy : Le x y := by
            rcases List.mem_cons.1 hy with e2 | hy
            · exact absurd e2.symm e
            · exact h3 y hy
          exact e (le_anti hxy hyx)
        · exact hx
      obtain ⟨r1, r2, hr⟩ := List.append_of_mem hxr
      have hp2 : t.Perm ((y :: s) ++ (r1 ++ r2)) := by
        have : (x :: t).Perm (x :: ((y :: s) ++ (r1 ++ r2))) := by
          refine hp.trans ?_
          rw [hr, ← List.append_assoc, ← List.append_assoc]
          exact List.perm_middle
        exact List.Perm.cons_inv this
      obtain ⟨c, hc, e1, e2⟩ := sel_ex t (y :: s) (r1 ++ r2) h4 h2 hp2
      refine ⟨2 * c, by rw [List.length_cons, Nat.pow_succ]; omega, ?_, ?_⟩
      · show (if (2 * c) % 2 = 1 then _ else selF ((2 * c) / 2) t) = _
        rw [if_neg (by omega), show (2 * c) / 2 = c from by omega, e1]
      · show (if (2 * c) % 2 = 1 then _ else x :: unF ((2 * c) / 2) t).Perm rest
        rw [if_neg (by omega), show (2 * c) / 2 = c from by omega, hr]
        exact (e2.cons x).trans List.perm_middle.symm
theorem without_perm2 : ∀ (less l rest0 : List Tm), l.Perm (less ++ rest0) → ∃ rest, withoutF l less = some rest ∧ rest.Perm rest0
  | [], l, r, h => ⟨l, without_nil l, h⟩
  | z :: less, l, r, h => by
    have hz : z ∈ l := h.mem_iff.2 (by simp)
    have ha : l.any (fun y => alikeB y z) = true := List.any_eq_true.2 ⟨z, hz, alike_iff.2 rfl⟩
    obtain ⟨a, l1, l2, _, hp, e1, e2⟩ := List.exists_of_eraseP (p := fun y => alikeB y z) hz (show alikeB z z = true from alike_iff.2 rfl)
    have haz : a = z := alike_iff.1 hp
    rw [haz] at e1
    have hperm : (l.eraseP fun y => alikeB y z).Perm (less ++ r) := by
      rw [e2]
      exact (List.perm_middle.symm.trans (e1 ▸ h)).cons_inv
    obtain ⟨y, h3, h4⟩ := without_perm2 less _ r hperm
    refine ⟨y, ?_, h4⟩
    conv => lhs; unfold withoutF
    rw [if_pos ha]
    exact h3
theorem perm_without : ∀ (less l rest : List Tm), withoutF l less = some rest → l.Perm (less ++ rest)
  | [], l, r, h => by
    rw [without_nil] at h
    cases h
    exact List.Perm.refl _
  | z :: less, l, r, h => by
    unfold withoutF at h
    split at h
    · rename_i ha
      obtain ⟨y, hy, hyz⟩ := List.any_eq_true.1 ha
      obtain ⟨a, l1, l2, _, hp, e1, e2⟩ := List.exists_of_eraseP (p := fun y => alikeB y z) hy hyz
      have haz : a = z := alike_iff.1 hp
      rw [haz] at e1
      have h3 := perm_without less _ r h
      rw [e2] at h3
      rw [e1]
      exact List.perm_middle.trans (h3.cons z)
    · cases h
/-- A table of terms as a vault has it. -/
structure Tbl (L : List Tm) : Prop where
  once : Once L
  closed : Closed L
  right : ∀ t ∈ L, rightF t 0 = true
  fit : ∀ t ∈ L, FitT t
  len : L.length ≤ 4096
section
variable {L : List Tm}
theorem alone_kinds {o m : Int} {d k : Nat} (h : aloneB o m d k = true) : (o = 1 ∧ k = 0) ∨ ((o = 2 ∨ o = 3 ∨ o = 4 ∨ o = 6) ∧ k = 1 ∧ d ≤ 8192) ∨ (o = 5 ∧ k = 0 ∧ d ≤ 8192) ∨ (o = 7 ∧ k ≤ 4 ∧ d = 0 ∧ m = 0) := by
  unfold aloneB at h
  split at h
  · exact .inl ⟨by assumption, (of_decide_eq_true h).1⟩
  · split at h
    · have := of_decide_eq_true h; exact .inr (.inl ⟨.inl (by assumption), this.1, by omega⟩)
    · split at h
      · have := of_decide_eq_true h
        refine .inr (.inl ⟨.inr ?_, this.1, this.2.1⟩)
        omega
      · split at h
        · have := of_decide_eq_true h
          exact .inr (.inr (.inl ⟨by assumption, this.1, this.2.1⟩))
        · split at h
          · have := of_decide_eq_true h
            exact .inr (.inr (.inr ⟨by assumption, this.1, this.2.1, this.2.2⟩))
          · cases h
theorem Tbl.kinds (T : Tbl L) {n : Nat} {o m : Int} {d : List Int} {ks : List Tm} (h : L[n]? = some (.mk o m d ks)) : (o = 1 ∧ ks.length = 0) ∨ ((o = 2 ∨ o = 3 ∨ o = 4 ∨ o = 6) ∧ ks.length = 1 ∧ d.length ≤ 8192) ∨ (o = 5 ∧ ks.length = 0 ∧ d.length ≤ 8192) ∨ (o = 7 ∧ ks.length ≤ 4 ∧ d.length = 0 ∧ m = 0) :=
  alone_kinds (right_mk.1 (T.right _ (List.mem_of_getElem? h))).2.1
theorem Tbl.order (T : Tbl L) {n : Nat} {o m : Int} {d : List Int} {ks : List Tm} (h : L[n]? = some (.mk o m d ks)) : ks.Pairwise Le := (right_mk.1 (T.right _ (List.mem_of_getElem? h))).2.2.2
theorem Tbl.kid (T : Tbl L) {n : Nat} {o m : Int} {d : List Int} {ks : List Tm} (h : L[n]? = some (.mk o m d ks)) {k : Tm} (hk : k ∈ ks) : ∃ j : Nat, findV k L = some j ∧ j < n := by
  obtain ⟨j, hj, e⟩ := T.closed n o m d ks h k hk
  exact ⟨j, (findV_once T.once).2 e, hj⟩
theorem Tbl.says (T : Tbl L) {n : Nat} {o m : Int} {d : List Int} {ks : List Tm} (h : L[n]? = some (.mk o m d ks)) {x b : Int} (hx : x ∈ mentionsF d b) : 0 ≤ x ∧ x < b := by
  obtain ⟨h1, h2⟩ := (mentions_mem _ _ _).1 hx
  have hf : Fit d := T.fit _ (List.mem_of_getElem? h)
  exact ⟨((says_iff hf x).1 h2).1.1, h1⟩
/-- A term's number. -/
def kN (L : List Tm) (k : Tm) : Int := (((findV k L).getD 0 : Nat) : Int)
theorem kids_map (L ks : List Tm) : kidsN L ks = ks.map (kN L) := rfl
theorem kN_some {k : Tm} {j : Nat} (h : findV k L = some j) : kN L k = (j : Int) := by unfold kN; rw [h]; rfl
theorem isH_kN {S : Nat → Prop} {k : Tm} {j : Nat} (h : findV k L = some j) : isH L S k ↔ S (kN L k).toNat := by
  rw [kN_some h, Int.toNat_natCast]
  exact ⟨fun ⟨i, e, hi⟩ => by rw [h] at e; cases e; exact hi, fun hj => ⟨j, h, hj⟩⟩
theorem kN_lt (T : Tbl L) {n : Nat} {o m : Int} {d : List Int} {ks : List Tm} (h : L[n]? = some (.mk o m d ks)) {x : Int} (hx : x ∈ kidsN L ks) : 0 ≤ x ∧ x < (n : Int) := by
  rw [kids_map] at hx
  obtain ⟨k, hk, rfl⟩ := List.mem_map.1 hx
  obtain ⟨j, e, hj⟩ := T.kid h hk
  rw [kN_some e]
  omega
/-- The ways of a term alone. -/
def baseW (L : List Tm) (n : Nat) : List Way := match L[n]? with
  | some (.mk o m d ks) => (if o ≠ 1 then [⟨kidsN L ks ++ mentionsF d (n : Int), [(n : Int)]⟩] else []) ++ (if o = 4 then [⟨[(n : Int), (kidsN L ks).getD 0 0], mentionsF d (n : Int)⟩] else [])
  | none => []
theorem base_mk {n : Nat} {o m : Int} {d : List Int} {ks : List Tm} (h : L[n]? = some (.mk o m d ks)) : baseW L n = (if o ≠ 1 then [⟨kidsN L ks ++ mentionsF d (n : Int), [(n : Int)]⟩] else []) ++ (if o = 4 then [⟨[(n : Int), (kidsN L ks).getD 0 0], mentionsF d (n : Int)⟩] else []) := by
  unfold baseW; rw [h]
/-- The power of these. -/
def PwI (L : List Tm) (l : List Int) (m : Nat) : Prop := ∃ mm d ks, L[m]? = some (Tm.mk 7 mm d ks) ∧ kidsN L ks = l
theorem PwI.one (T : Tbl L) {l : List Int} {m m' : Nat} (h : PwI L l m) (k : PwI L l m') : m = m' := by
  obtain ⟨a, d, ks, e, h1⟩ := h
  obtain ⟨a', d', ks', e', h2⟩ := k
  have mem : ∀ {n : Nat} {o m : Int} {d : List Int} {ks : List Tm}, L[n]? = some (.mk o m d ks) → ∀ k ∈ ks, k ∈ L := fun hn k hk => by
    obtain ⟨j, hj, _⟩ := T.kid hn hk
    exact List.mem_of_getElem? (findV_some hj).1
  have hk : ks = ks' := kidsN_inj (mem e) (mem e') (h1.trans h2.symm)
  subst hk
  have c1 := T.kinds e
  have c2 := T.kinds e'
  have z1 : d.length = 0 ∧ a = 0 := by omega
  have z2 : d'.length = 0 ∧ a' = 0 := by omega
  rw [List.length_eq_zero_iff] at z1 z2
  rw [z1.1, z1.2] at e
  rw [z2.1, z2.2] at e'
  exact T.once _ _ _ e e'
/-- A way to a power by one of some of its kids. -/
def PowW (L : List Tm) (n : Nat) (c : Nat) (w : Way) : Prop := ∃ mm d ks m, L[n]? = some (Tm.mk 7 mm d ks) ∧ c < 2 ^ ks.length ∧ PwI L (selF c (kidsN L ks)) m ∧ w = ⟨unF c (kidsN L ks) ++ [(m : Int)], [(n : Int)]⟩
def AllW (L : List Tm) (w : Way) : Prop := (∃ n, n < L.length ∧ w ∈ baseW L n) ∨ ∃ n c, PowW L n c w
theorem all_pos (T : Tbl L) {w : Way} (h : AllW L w) : ∀ m ∈ w.needs, 0 ≤ m ∧ m < (L.length : Int) := by
  intro x hx
  rcases h with ⟨n, hn, h⟩ | ⟨n, c, mm, d, ks, m, e, hc, ⟨m1, d1, ks1, e1, _⟩, rfl⟩
  · obtain ⟨⟨o, m, d, ks⟩, e⟩ : ∃ t, L[n]? = some t := ⟨_, List.getElem?_eq_getElem hn⟩
    rw [base_mk e] at h
    rcases List.mem_append.1 h with h | h
    · split at h
      · rw [List.mem_singleton.1 h] at hx
        rcases List.mem_append.1 hx with hx | hx
        · have := kN_lt T e hx; omega
        · have := T.says e hx; omega
      · simp at h
    · split at h
      · rename_i ho
        rw [List.mem_singleton.1 h] at hx
        rcases List.mem_cons.1 hx with hx | hx
        · omega
        · rw [List.mem_singleton.1 hx]
          have c1 := T.kinds e
          have hl : 0 < (kidsN L ks).length := by rw [kidsN_len]; omega
          have hm : (kidsN L ks).getD 0 0 ∈ kidsN L ks := by
            rw [List.getD_eq_getElem?_getD, List.getElem?_eq_getElem hl]; exact List.getElem_mem hl
          have := kN_lt T e hm
          omega
      · simp at h
  · have hl := (List.getElem?_eq_some_iff.1 e).1
    have hl1 := (List.getElem?_eq_some_iff.1 e1).1
    rcases List.mem_append.1 hx with hx | hx
    · have := kN_lt T e (un_mem hx); omega
    · rw [List.mem_singleton.1 hx]; omega
/-- Whatever is closed bears all ways. -/
theorem all_sound (T : Tbl L) {S : Nat → Prop} (hS : ClosedH L (fun _ => False) S) {w : Way} (h : AllW L w) : WayIn L.length S w := by
  intro hm g hg h0 h1
  rcases h with ⟨n, hn, h⟩ | ⟨n, c, mm, d, ks, m, e, hc, ⟨m1, d1, ks1, e1, hk1⟩, rfl⟩
  · obtain ⟨⟨o, m, d, ks⟩, e⟩ : ∃ t, L[n]? = some t := ⟨_, List.getElem?_eq_getElem hn⟩
    rw [base_mk e] at h
    have c1 := T.kinds e
    rcases List.mem_append.1 h with h | h
    · split at h
      · rename_i ho
        rw [List.mem_singleton.1 h] at hg hm
        rw [List.mem_singleton.1 hg, Int.toNat_natCast]
        have hks : ∀ k ∈ ks, isH L S k := fun k hk => by
          obtain ⟨j, hj, _⟩ := T.kid e hk
          exact (isH_kN hj).2 (hm _ (List.mem_append_left _ (by rw [kids_map]; exact List.mem_map.2 ⟨k, hk, rfl⟩)))
        have hd : allH S d n := fun x hx => hm x (List.mem_append_right _ hx)
        refine hS.made n ⟨o, m, d, ks, e, ?_⟩
        rcases c1 with ⟨h2, _⟩ | ⟨h2, h3, _⟩ | ⟨h2, _⟩ | ⟨h2, _⟩
        · exact absurd h2 ho
        · cases ks with
          | nil => simp at h3
          | cons k r => exact .inl ⟨h2, ⟨k, r, rfl, hks k (by simp)⟩, hd⟩
        · exact .inr (.inl ⟨h2, hd⟩)
        · exact .inr (.inr ⟨h2, .inl hks⟩)
      · simp at h
    · split at h
      · rename_i ho
        rw [List.mem_singleton.1 h] at hg hm
        cases ks with
        | nil => have : (0 : Nat) = 1 := by { simp at c1; omega }; omega
        | cons k r =>
          obtain ⟨j, hj, _⟩ := T.kid e (k := k) (by simp)
          have hk : isH L S k := (isH_kN hj).2 (hm _ (List.mem_cons_of_mem _ (by simp [kids_map])))
          have hn' := hm (n : Int) (by simp)
          rw [Int.toNat_natCast] at hn'
          have hx := T.says e hg
          subst ho
          refine hS.opened g.toNat ⟨n, m, d, k, r, hn', e, hk, ?_⟩
          rw [Int.toNat_of_nonneg h0]
          exact hg
      · simp at h
  · rw [List.mem_singleton.1 hg, Int.toNat_natCast]
    have hm1 := hm (m : Int) (by simp)
    rw [Int.toNat_natCast] at hm1
    have mem : ∀ {n : Nat} {o m : Int} {d : List Int} {ks : List Tm}, L[n]? = some (.mk o m d ks) → ∀ k ∈ ks, k ∈ L := fun hn k hk => by
      obtain ⟨j, hj, _⟩ := T.kid hn hk
      exact List.mem_of_getElem? (findV_some hj).1
    have hsel : selF c ks = ks1 := by
      rw [kids_map L ks1, kids_map L ks, sel_map] at hk1
      exact (kidsN_inj (mem e1) (fun k hk => mem e k (sel_mem hk)) hk1).symm
    obtain ⟨rest, h2, h3⟩ := without_perm2 ks1 ks (unF c ks) (by rw [← hsel]; exact sel_perm ks c)
    refine hS.made n ⟨7, mm, d, ks, e, .inr (.inr ⟨rfl, .inr ⟨m, m1, d1, ks1, rest, hm1, e1, h2, fun k hk => ?_⟩⟩)⟩
    have hk2 := h3.mem_iff.1 hk
    obtain ⟨j, hj, _⟩ := T.kid e (un_mem hk2)
    exact (isH_kN hj).2 (hm _ (List.mem_append_left _ (by rw [kids_map, un_map]; exact List.mem_map.2 ⟨k, hk2, rfl⟩)))
/-- Whatever bears all ways is closed. -/
theorem all_full (T : Tbl L) {S : Nat → Prop} (h : ∀ w, AllW L w → WayIn L.length S w) : (∀ n, madeH L S n → S n) ∧ ∀ n, openH L S n → S n := by
  have way1 : ∀ {n : Nat} {o m : Int} {d : List Int} {ks : List Tm}, L[n]? = some (.mk o m d ks) → o ≠ 1 → (∀ k ∈ ks, isH L S k) → allH S d n → S n := fun {n o m d ks} e ho hks hd => by
    have hn := (List.getElem?_eq_some_iff.1 e).1
    have := h ⟨kidsN L ks ++ mentionsF d (n : Int), [(n : Int)]⟩ (.inl ⟨n, hn, by rw [base_mk e, if_pos ho]; simp⟩) (fun x hx => by
      rcases List.mem_append.1 hx with hx | hx
      · rw [kids_map] at hx
        obtain ⟨k, hk, rfl⟩ := List.mem_map.1 hx
        obtain ⟨j, hj, _⟩ := T.kid e hk
        exact (isH_kN hj).1 (hks k hk)
      · exact hd x hx) (n : Int) (by simp) (by omega) (by omega)
    rwa [Int.toNat_natCast] at this
  refine ⟨fun n hm => ?_, fun n ho => ?_⟩
  · obtain ⟨o, m, d, ks, e, hm⟩ := hm
    have c1 := T.kinds e
    rcases hm with ⟨h1, ⟨k, r, hk, hkh⟩, hd⟩ | ⟨h1, hd⟩ | ⟨h1, hex⟩
    · refine way1 e (by omega) (fun x hx => ?_) hd
      subst hk
      have hr : r = [] := by
        rw [← List.length_eq_zero_iff]
        rw [List.length_cons] at c1
        omega
      subst hr
      rw [List.mem_singleton.1 hx]
      exact hkh
    · refine way1 e (by omega) (fun x hx => ?_) hd
      have : ks.length = 0 := by omega
      rw [List.length_eq_zero_iff] at this
      subst this
      simp at hx
    · subst h1
      have hd0 : d = [] := by rw [← List.length_eq_zero_iff]; omega
      subst hd0
      rcases hex with hks | ⟨m1, mm1, d1, ks1, rest, hm1, e1, hw, hrest⟩
      · refine way1 e (by omega) hks fun x hx => ?_
        have h2 := ((mentions_mem _ _ _).1 hx).2
        obtain ⟨_, p, q, hpq⟩ := (says_iff (fun x hx => by simp at hx) x).1 h2
        obtain ⟨hp, hq⟩ := List.append_eq_nil_iff.1 hpq.symm
        have := (List.append_eq_nil_iff.1 hp).2
        exact absurd (congrArg List.length this) (by unfold menF; rw [if_pos (by assumption)]; simp)
      · obtain ⟨c, hc, h2, h3⟩ := sel_ex ks ks1 rest (T.order e) (T.order e1) (perm_without _ _ _ hw)
        have hn := (List.getElem?_eq_some_iff.1 e).1
        have := h ⟨unF c (kidsN L ks) ++ [(m1 : Int)], [(n : Int)]⟩ (.inr ⟨n, c, m, [], ks, m1, e, hc, ⟨mm1, d1, ks1, e1, by rw [kids_map L ks, sel_map, h2]; rfl⟩, rfl⟩) (fun x hx => by
          rcases List.mem_append.1 hx with hx | hx
          · rw [kids_map, un_map] at hx
            obtain ⟨k, hk, rfl⟩ := List.mem_map.1 hx
            obtain ⟨j, hj, _⟩ := T.kid e (un_mem hk)
            exact (isH_kN hj).1 (hrest k (h3.mem_iff.1 hk))
          · rw [List.mem_singleton.1 hx, Int.toNat_natCast]
            exact hm1) (n : Int) (by simp) (by omega) (by omega)
        rwa [Int.toNat_natCast] at this
  · obtain ⟨i, m, d, k, r, hi, e, hk, hx⟩ := ho
    have hil := (List.getElem?_eq_some_iff.1 e).1
    have hb := T.says e hx
    obtain ⟨j, hj, _⟩ := T.kid e (k := k) (by simp)
    have := h ⟨[(i : Int), (kidsN L (k :: r)).getD 0 0], mentionsF d (i : Int)⟩ (.inl ⟨i, hil, by rw [base_mk e, if_pos rfl]; simp⟩) (fun x hx => by
      rcases List.mem_cons.1 hx with rfl | hx
      · rw [Int.toNat_natCast]; exact hi
      · rw [List.mem_singleton.1 hx]
        exact (isH_kN hj).1 hk) (n : Int) hx (by omega) (by omega)
    rwa [Int.toNat_natCast] at this
/-- What is had at last is the closure. -/
theorem had_cl (T : Tbl L) {WS : List Way} {h0 hd td : List Bool} {K : Nat → Prop} {hk : List Bool} (hA : Adds L.length (AllW L) WS h0) (hs : Sub h0 hk) (hK : ∀ n, SB hk n ↔ SB h0 n ∨ (n < L.length ∧ K n)) (s : SI L.length WS hk hd td) (hend : ∀ n, SB hd n → SB td n) (n : Nat) : SB hd n ↔ Cl L K n := by
  refine cl_is ?_ (fun n hn => ?_) n
  · have hw := (hA (SB hd)).2 ⟨s.closed hend, fun n hn => s.sub.2 n (hs.2 n hn)⟩
    obtain ⟨h1, h2⟩ := all_full T hw
    exact ⟨fun n hn hk => s.sub.2 n ((hK n).2 (.inr ⟨hn, hk⟩)), h1, h2⟩
  · have hc : ClosedH L (fun _ => False) (Cl L K) := ⟨fun _ _ h => h.elim, cl_closed.made, cl_closed.opened⟩
    obtain ⟨h1, h2⟩ := (hA (Cl L K)).1 fun w hw => all_sound T hc hw
    refine s.snd (Cl L K) h1 (fun n hn => ?_) n hn
    rcases (hK n).1 hn with h | ⟨h, k⟩
    · exact h2 n h
    · exact cl_closed.known n h k
end
end Go.Proofs.YtlhogjigdmpokaaGreatDoor.vtc
namespace Go.Proofs.YtlhogjigdmpokaaGreatDoor.rfc
open Go Go.RowKit
set_option linter.unusedVariables false
variable {F : Fence} {n : Nat} {P : Program}
/-- How a round may be left. -/
def endJ (B : Nat) (I : World → Prop) (Ix : Code → World → Prop) (W : World) : Exit → Act → World → Prop
  | .normal, _, W' => KeepsFrom B W W' ∧ I W'
  | .ret, _, W' => KeepsFrom B W W' ∧ Ix .ret W'
  | .exit id, _, W' => KeepsFrom B W W' ∧ Ix (.exit id) W'
  | .goto t, _, W' => KeepsFrom B W W' ∧ Ix (.goto t) W'
  | .panic _, _, _ => False
  | .outgrown, _, _ => False
/-- What an iterator owes, whatever the rounds do within I (γ: what the caller keeps in mind): it hands out the x of which Rd holds, at k = 0, 1, .., in this order, or passes over a k of which Sk holds. -/
def SeqJ {α G : Type} (F : Fence) (n : Nat) (P : Program) (g : Nat) (lb : Array Value) (encs : α → Array Value) (I : Nat → G → World → Prop) (Rd : Nat → G → α → World → Prop) (Sk : Nat → World → Prop) (N : Nat) : Prop :=
  ∀ (l : Nat) (J : Nat → G → World → Prop) (Jx : World → Prop) (W : World), (∀ k γ A, J k γ A → I k γ A) → (∀ k γ A B, J k γ A → Below A.heap.size A B → J k γ B) →
    (∀ k γ x W1, k < N → J k γ W1 → Rd k γ x W1 → YieldAt F (n - 1) P l (encs x) W1 fun e W' => (e = .returned (.bool true) ∧ ∃ γ', J (k + 1) γ' W') ∨ (e = .returned (.bool false) ∧ Jx W')) →
    (∀ k γ W1, k < N → J k γ W1 → Sk k W1 → J (k + 1) γ W1) → (∃ γ, J 0 γ W) →
    CallsIn F n P g (#[.func (.yield l) #[] #[]] ++ lb) W fun e W' => (∃ v, e = .returned v) ∧ ((∃ γ, J N γ W') ∨ Jx W')
theorem wpIn_rangeFunc_J {α G : Type} {g : Operand} {ps : Array Tmp} {assign body : Code} {Q : Exit → Act → World → Prop} {a : Act} {w : World}
    (hro : F.round = none) (h1 : 1 ≤ n) {gf : Nat} {lb : Array Value} (hg : a.eval g = .func (.func gf) #[] lb) (hFg : F.fn gf) (eg : ∀ args w, (callFunc gf args).run P w = .ok (.enter gf args) w)
    {encs : α → Array Value} (hps : ∀ x, (encs x).size = ps.size)
    (I : Nat → G → World → Prop) (Ix : Code → World → Prop) (Rd : Nat → G → α → World → Prop) (Sk : Nat → World → Prop) (N : Nat) (hseq : SeqJ F (n - 1) P gf lb encs I Rd Sk N)
    (hI : ∀ k, OwnFrom w.heap.size (I k)) (hIx : OwnFrom w.heap.size Ix) (hSk : ∀ k γ W, k < N → I k γ W → Sk k W → I (k + 1) γ W) (h0 : ∃ γ, I 0 γ w) (Ax : Nat → α → Act → World → Prop) (hAx : ∀ k x a', OwnFrom w.heap.size (fun (_ : Unit) W => Ax k x a' W))
    (hassign : ∀ (l k : Nat) (γ : G) (x : α) (W : World) (K : Act → World → Prop), k < N → I k γ W → Rd k γ x W → (∀ a' W', KeepsFrom w.heap.size W W' → Ax k x a' W' → K a' W') →
      assign.wpIn (F.inRound l) (n - 1 - 1) P (Exit.then K (fun _ _ _ => False)) { tmps := (ps.zip (encs x)).foldl (fun t (p, v) => t.setIfInBounds p v) a.tmps, defers := [] } W)
    (hbody : ∀ (l k : Nat) (x : α) (a' : Act) (W : World), k < N → w.heap.size ≤ l → Ax k x a' W → body.wpIn (F.inRound l) (n - 1 - 1) P (endJ w.heap.size (fun W' => ∃ γ', I (k + 1) γ' W') Ix W) a' W)
    (hdone : ∀ (D : Nat) (γ : G) (W : World), w.heap.size ≤ D → I N γ W → W.heap[D]? = some (.deferred (some [])) → Q .normal { a with defers := { target := .collected D, args := #[] } :: a.defers } W)
    (hstop : ∀ (D : Nat) (c : Code) (W : World), w.heap.size ≤ D → Ix c W → W.heap[D]? = some (.deferred (some [])) → c.wpIn F n P Q { a with defers := { target := .collected D, args := #[] } :: a.defers } W) :
    (Code.rangeFunc g ps assign body).wpIn F n P Q a w := by
  refine wpIn_rangeFunc ?_
  intro fn hfn
  rw [hro]
  obtain ⟨rec, hrec⟩ : ∃ rec : LoopState → Option Code → Loop, rec = fun st pe => { state := st, pending := pe, fn, tmps := a.tmps, params := ps, assign, body, defers := w.heap.size } := ⟨_, rfl⟩
  obtain ⟨W1, hW1⟩ : ∃ W1, (w.alloc (.deferred (some []))).alloc (.loop (rec .ready none)) = W1 := ⟨_, rfl⟩
  have hL1 : W1.heap[w.heap.size + 1]? = some (.loop (rec .ready none)) := by
    rw [← hW1]; have := World.alloc_heap_new (w.alloc (.deferred (some []))) (.loop (rec .ready none)); rwa [World.size_alloc] at this
  have hK1 : W1.heap[w.heap.size]? = some (.deferred (some [])) := by
    rw [← hW1]; exact (Below.heap_alloc _ _ _ (by simp)).trans (World.alloc_heap_new w _)
  obtain ⟨γ0, h0⟩ := h0
  have hI1 : I 0 γ0 W1 := by rw [← hW1]; exact (hI 0).alloc _ ((hI 0).alloc _ h0)
  refine ⟨w.heap.size + 1, [{ target := .collected w.heap.size, args := #[] }], W1, { target := .fn (.func gf) lb, args := #[.func (.yield (w.heap.size + 1)) #[] #[]] }, W1, gf,
    #[.func (.yield (w.heap.size + 1)) #[] #[]] ++ lb, W1, ?_, ?_, ?_, ?_, fun _ => h1, ?_⟩
  · rw [← hW1, hrec]; exact run_enterLoop_outer _ _ _ _ _
  · simp only [resolve, hg]
    simp [go_sem]
  · intro f' hf'; simp [Target.leads] at hf'; subst hf'; exact hFg
  · simp [invoke, go_sem, eg]
  · refine (hseq (w.heap.size + 1)
      (fun k γ W => I k γ W ∧ W.heap[w.heap.size + 1]? = some (.loop (rec .ready none)) ∧ W.heap[w.heap.size]? = some (.deferred (some [])))
      (fun W => ∃ c, Ix c W ∧ W.heap[w.heap.size + 1]? = some (.loop (rec .done (some c))) ∧ W.heap[w.heap.size]? = some (.deferred (some [])))
      W1 (fun k γ A h => h.1)
      (fun k γ A B hs hb => ⟨hI k γ A B none hs.1 (tlvc.grown_of_below hb none) (fun r e => by cases e), (hb.block _ (Array.getElem?_eq_some_iff.1 hs.2.1).1).trans hs.2.1, (hb.block _ (Array.getElem?_eq_some_iff.1 hs.2.2).1).trans hs.2.2⟩)
      ?_ (fun k γ W hk h hs => ⟨hSk k γ W hk h.1 hs, h.2⟩) ⟨γ0, hI1, hL1, hK1⟩).mono ?_
    · -- one round
      rintro k γ x W hkN ⟨hi, hl, hk⟩ hrd
      have hlt : w.heap.size + 1 < W.heap.size := (Array.getElem?_eq_some_iff.1 hl).1
      have hy := run_yield (P := P) (args := encs x) hl (by rw [hrec]; exact hps x)
      rw [hrec] at hy
      refine ⟨fn, _, assign, body, hy, roundIn_of_wpIn hfn (hassign _ k γ x W _ hkN hi hrd ?_)⟩
      clear hy
      intro a' Wa hkfa hax
      replace hl := hkfa.same _ _ (by omega) hl rfl
      replace hk := hkfa.same _ _ (Nat.le_refl _) hk rfl
      replace hlt : w.heap.size + 1 < Wa.heap.size := (Array.getElem?_eq_some_iff.1 hl).1
      clear hkfa hrd hi
      refine ⟨_, run_beginRound hl (by rw [hrec]), ?_⟩
      have hl2 : (Wa.putObj (w.heap.size + 1) (.loop { rec .ready none with state := .busy })).heap[w.heap.size + 1]? = some (.loop { rec .ready none with state := .busy }) := World.putObj_heap_same hlt
      have hk2 : (Wa.putObj (w.heap.size + 1) (.loop { rec .ready none with state := .busy })).heap[w.heap.size]? = some (.deferred (some [])) := (World.putObj_heap_other (by omega)).trans hk
      refine wpIn_mono (hbody _ k x a' _ hkN (by omega) ((hAx k x a').putObj (s := ()) _ hax (by omega) hl rfl)) ?_
      have fin : ∀ (jump : Option Code) (W3 : World), KeepsFrom w.heap.size (Wa.putObj (w.heap.size + 1) (.loop { rec .ready none with state := .busy })) W3 →
          (Instr.endRound (w.heap.size + 1) jump).run P W3 = .ok (.bool jump.isNone) (W3.putObj (w.heap.size + 1) (.loop (rec (if jump.isNone then .ready else .done) jump))) ∧
          W3.heap[w.heap.size + 1]? = some (.loop { rec .ready none with state := .busy }) ∧
          (W3.putObj (w.heap.size + 1) (.loop (rec (if jump.isNone then .ready else .done) jump))).heap[w.heap.size + 1]? = some (.loop (rec (if jump.isNone then .ready else .done) jump)) ∧
          (W3.putObj (w.heap.size + 1) (.loop (rec (if jump.isNone then .ready else .done) jump))).heap[w.heap.size]? = some (.deferred (some [])) := fun jump W3 hk3 => by
        have hl3 := hk3.same _ _ (by omega) hl2 rfl
        have := run_endRound (P := P) jump hl3
        rw [hrec] at this ⊢
        exact ⟨this, by rw [hrec] at hl3; exact hl3, World.putObj_heap_same (Array.getElem?_eq_some_iff.1 hl3).1, (World.putObj_heap_other (by omega)).trans (hk3.same _ _ (Nat.le_refl _) hk2 rfl)⟩
      rintro e a3 W3 hp
      cases e with
      | normal =>
        obtain ⟨hk3, γ', hi3⟩ := hp
        obtain ⟨hr, hl3, hl4, hk4⟩ := fin none W3 hk3
        exact ⟨_, _, hr, .inl ⟨rfl, γ', (hI _).putObj _ hi3 (by omega) hl3 rfl, hl4, hk4⟩⟩
      | ret =>
        obtain ⟨hk3, hi3⟩ := hp
        obtain ⟨hr, hl3, hl4, hk4⟩ := fin (some .ret) W3 hk3
        exact ⟨_, _, hr, .inr ⟨rfl, .ret, hIx.putObj _ hi3 (by omega) hl3 rfl, hl4, hk4⟩⟩
      | exit id =>
        obtain ⟨hk3, hi3⟩ := hp
        obtain ⟨hr, hl3, hl4, hk4⟩ := fin (some (.exit id)) W3 hk3
        exact ⟨_, _, hr, .inr ⟨rfl, .exit id, hIx.putObj _ hi3 (by omega) hl3 rfl, hl4, hk4⟩⟩
      | goto t =>
        obtain ⟨hk3, hi3⟩ := hp
        obtain ⟨hr, hl3, hl4, hk4⟩ := fin (some (.goto t)) W3 hk3
        exact ⟨_, _, hr, .inr ⟨rfl, .goto t, hIx.putObj _ hi3 (by omega) hl3 rfl, hl4, hk4⟩⟩
      | panic ch => exact hp.elim
      | outgrown => exact hp.elim
    · rintro e W2 ⟨⟨v, rfl⟩, (⟨γ, hi, hl, hk⟩ | ⟨c, hi, hl, hk⟩)⟩
      · exact ⟨none, _, by have := run_endLoop (P := P) hl (by rw [hrec]; simp); rw [hrec] at this; exact this, hdone _ γ _ (Nat.le_refl _) ((hI _).putObj _ hi (by omega) hl rfl) ((World.putObj_heap_other (by omega)).trans hk)⟩
      · exact ⟨some c, _, by have := run_endLoop (P := P) hl (by rw [hrec]; simp); rw [hrec] at this; exact this, hstop _ c _ (Nat.le_refl _) (hIx.putObj _ hi (by omega) hl rfl) ((World.putObj_heap_other (by omega)).trans hk)⟩
/-- A function's end with marks alone among its deferred calls. -/
theorem leaves_marks {fn : Func} {tmps : Array Value} {R : Ending → World → Prop} (S : World → Prop) (B : Nat) (hS : OwnFrom B (fun (_ : Unit) => S)) : ∀ (ds : List Deferred) (w : World), S w → (∀ d ∈ ds, ∃ D, d = { target := .collected D, args := #[] } ∧ B ≤ D) → ds.Nodup → (∀ D, ({ target := .collected D, args := #[] } : Deferred) ∈ ds → w.heap[D]? = some (.deferred (some []))) →
    (∀ w', S w' → LeavesIn F n P fn tmps R [] .returning w') → LeavesInM F n P fn tmps R ds .returning w
  | [], w, hs, _, _, _, h => by
    unfold LeavesInM
    exact h w hs
  | d :: ds, w, hs, hd, hn, hw, h => by
    obtain ⟨D, rfl, hB⟩ := hd d (by simp)
    unfold LeavesInM
    have hk := hw D (by simp)
    refine ⟨by simp, .inl ⟨D, _, rfl, run_takeDeferred hk, ?_⟩⟩
    refine leaves_marks S B hS ds _ (hS.putObj (s := ()) _ hs hB hk rfl) (fun d' hd' => hd d' (by simp [hd'])) (List.nodup_cons.1 hn).2 (fun D' hD' => ?_) h
    have hne : D' ≠ D := fun e => by
      subst e
      exact (List.nodup_cons.1 hn).1 hD'
    exact (World.putObj_heap_other hne).trans (hw D' (by simp [hD']))
end Go.Proofs.YtlhogjigdmpokaaGreatDoor.rfc
