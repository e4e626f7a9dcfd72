/- Names and principals: what is right, and whose node is which; plain facts on what Check tells of their leaves. -/
import Derived.Test.YthcancakkkjpaaaGreatDoorRb
import Derived.Test.YthcancakkkjpaaaGreatDoorNd
namespace Go.Proofs.YthcancakkkjpaaaGreatDoor.nmc
open Go.RowKit Go.Proofs.YthcancakkkjpaaaGreatDoor.tlvc Go.Proofs.YthcancakkkjpaaaGreatDoor.tlvd Go.Proofs.YthcancakkkjpaaaGreatDoor.ndc Go.Proofs.YthcancakkkjpaaaGreatDoor.txc Go.Proofs.YthcancakkkjpaaaGreatDoor.txm Go.Proofs.YthcancakkkjpaaaGreatDoor.intc Go.Proofs.YthcancakkkjpaaaGreatDoor.intm
set_option linter.unusedVariables false
def utfS (s : ByteArray) : Bool := Lib.validD s.data.toList
theorem utf_bytesI (s : ByteArray) : utfB (bytesI s) = utfS s := by unfold utfB utfS; rw [str_bytesI]
def attrOK (a : At) : Bool := objB a.oid && decide (a.text.size ≤ 64) && utfS a.text
def attrN (a : At) : Nd := .mk 48 [] [.mk 6 (encO a.oid) [], .mk 12 (bytesI a.text) []]
def rightN (l : List At) : Bool := decide (l.length ≤ 8) && l.all attrOK
def nameN (l : List At) : Nd := .mk 48 [] (l.map attrN)
def wordOK (s : ByteArray) : Bool := decide (1 ≤ s.size) && decide (s.size ≤ 64) && rightB 27 (bytesI s)
def wordN (s : ByteArray) : Nd := .mk 27 (bytesI s) []
def rightP (p : Pr) : Bool := wordOK p.realm && decide (1 ≤ p.names.length) && decide (p.names.length ≤ 8) && p.names.all wordOK
def princN (p : Pr) : Nd := .mk 48 [] [wordN p.realm, .mk 48 [] (p.names.map wordN)]
/-- The nodes of some parts, one behind the other; none, if one has none. -/
def seqF {α : Type} (F : α → Option Nd) : List α → Option (List Nd)
  | [] => some []
  | x :: xs => match F x with
    | none => none
    | some n => (seqF F xs).map (n :: ·)
theorem seqF_all {α : Type} {ok : α → Bool} {g : α → Nd} : ∀ (xs : List α), seqF (fun x => if ok x = true then some (g x) else none) xs = if xs.all ok = true then some (xs.map g) else none
  | [] => rfl
  | x :: xs => by
    unfold seqF
    rw [seqF_all xs, List.all_cons]
    cases h : ok x
    · simp
    · simp only [if_true, Bool.true_and]
      split <;> rfl
/-- The program's answer for a part, a word, a leaf. -/
def attrF (a : At) : Option Nd := if attrOK a = true then some (attrN a) else none
def wordF (s : ByteArray) : Option Nd := if wordOK s = true then some (wordN s) else none
def checkF (n : Nd) : Option Nd := if errW (writeF n 0) = 0 then some n else none
def nameF (l : List At) : Option Nd := if rightN l = true then some (nameN l) else none
def princF (p : Pr) : Option Nd := if rightP p = true then some (princN p) else none
theorem seqF_attr (l : List At) : seqF attrF l = if l.all attrOK = true then some (l.map attrN) else none := seqF_all l
theorem seqF_word (l : List ByteArray) : seqF wordF l = if l.all wordOK = true then some (l.map wordN) else none := seqF_all l
/-! ### What Check tells of leaves -/
theorem err_put {t : Int} {b : List Int} (ht : endlessB t = false) (hb : b.length ≤ 65535) : errW (putW t b) = 0 := by
  have e : putF t b = (putBytes t b, 0) := by
    unfold putF
    rw [if_neg (by rw [ht]; decide), if_neg (by omega)]
  unfold putW
  rw [e]
  rfl
theorem write_leaf {t : Int} {b : List Int} (ht : t % 32 ≠ 31) (hc : compB t = false) (he : endlessB t = false) (hb : b.length ≤ 65535) : errW (writeF (.mk t b []) 0) = if mayF t b = true then 0 else 43 := by
  unfold writeF aloneF
  rw [if_neg (by decide : ¬ 32 ≤ 0), if_neg ht]
  by_cases hm : mayF t b = true
  · rw [if_pos hm, if_neg (by decide)]
    have hmis : misF t b ([] : List Nd).length = false := by unfold misF; rw [hc]; rfl
    rw [hmis, hc, if_neg (by decide), if_neg (by decide)]
    exact err_put he hb
  · rw [if_neg hm, if_pos (by decide)]
    rfl
theorem check_oid {l : List Int} (h : objB l = true) : checkF (.mk 6 (encO l) []) = some (.mk 6 (encO l) []) := by
  unfold checkF
  rw [write_leaf (by decide) (by decide) (by decide) (by have := encO_length h; omega)]
  have : mayF 6 (encO l) = true := by
    have e : mayF 6 (encO l) = decide ((oidF (encO l)).2 = 0) := rfl
    rw [e, oidF_enc h]
    rfl
  rw [this]
  rfl
theorem check_utf {s : ByteArray} (h : s.size ≤ 64) : checkF (.mk 12 (bytesI s) []) = if utfS s = true then some (.mk 12 (bytesI s) []) else none := by
  unfold checkF
  rw [write_leaf (by decide) (by decide) (by decide) (by rw [bytesI_length]; omega)]
  have : mayF 12 (bytesI s) = utfS s := by
    have e : mayF 12 (bytesI s) = utfB (bytesI s) := rfl
    rw [e, utf_bytesI]
  rw [this]
  cases utfS s <;> rfl
theorem check_word {s : ByteArray} (h : s.size ≤ 64) : checkF (wordN s) = if rightB 27 (bytesI s) = true then some (wordN s) else none := by
  unfold checkF wordN
  rw [write_leaf (by decide) (by decide) (by decide) (by rw [bytesI_length]; omega)]
  have : mayF 27 (bytesI s) = rightB 27 (bytesI s) := rfl
  rw [this]
  cases rightB 27 (bytesI s) <;> rfl
theorem check_attr {a : At} (ho : objB a.oid = true) (hs : a.text.size ≤ 64) : seqF checkF [.mk 6 (encO a.oid) [], .mk 12 (bytesI a.text) []] = if utfS a.text = true then some [.mk 6 (encO a.oid) [], .mk 12 (bytesI a.text) []] else none := by
  unfold seqF
  rw [check_oid ho]
  unfold seqF
  rw [check_utf hs]
  cases utfS a.text <;> rfl
/-! ### Read: of a node -/
def kidF (n : Nd) (i : Nat) : Nd := n.kids.getD i (.mk 0 [] [])
def toldA (n : Nd) : At := ⟨(oidF (kidF n 0).body).1, strOfNums (kidF n 1).body⟩
def toldN (n : Nd) : List At := (n.kids.take 8).map toldA
def toldP (n : Nd) : Pr := ⟨strOfNums (kidF n 0).body, ((kidF n 1).kids.take 8).map fun k => strOfNums k.body⟩
theorem sameN_eq : ∀ (N : Nat) (n m : Nd), szN n ≤ N → sameN n m = true → n = m
  | 0, .mk t b ks, m, h, _ => by unfold szN at h; omega
  | N + 1, .mk t b ks, .mk t2 b2 ms, h, e => by
    unfold sameN at e
    unfold szN at h
    simp only [Bool.and_eq_true, Nd.tag, Nd.body, Nd.kids] at e
    obtain ⟨⟨⟨e1, e2⟩, e3⟩, hk⟩ := e
    have hl := of_decide_eq_true e3
    obtain rfl := of_decide_eq_true e1
    obtain rfl := of_decide_eq_true e2
    have : ks = ms := by
      apply List.ext_getElem hl
      intro i h1 h2
      have key : ∀ (us vs : List Nd) (i : Nat) (h1 : i < us.length) (h2 : i < vs.length), sameL us vs = true → sameN us[i] vs[i] = true := by
        intro us
        induction us with
        | nil => intro vs i h1; simp at h1
        | cons a us ih =>
          intro vs i h1 h2 hs
          cases vs with
          | nil => simp at h2
          | cons b vs =>
            unfold sameL at hs
            rw [Bool.and_eq_true] at hs
            cases i with
            | zero => exact hs.1
            | succ i => exact ih vs i (by simpa using h1) (by simpa using h2) hs.2
      exact sameN_eq N _ _ (by have := szL_mem (List.getElem_mem h1); omega) (key ks ms i h1 h2 hk)
    rw [this]
theorem sameN_iff (n m : Nd) : sameN n m = true ↔ n = m := ⟨sameN_eq (szN n) n m (Nat.le_refl _), fun e => by rw [e]; exact sameN_refl m⟩
theorem toldA_attr {a : At} (h : objB a.oid = true) : toldA (attrN a) = a := by
  unfold toldA attrN kidF
  simp only [Nd.kids, Nd.body, List.getD_cons_zero, List.getD_cons_succ]
  rw [oidF_enc h, str_bytesI]
theorem told_name {l : List At} (h : rightN l = true) : toldN (nameN l) = l := by
  unfold rightN at h
  rw [Bool.and_eq_true, decide_eq_true_eq, List.all_eq_true] at h
  unfold toldN nameN
  simp only [Nd.kids]
  rw [List.take_of_length_le (by rw [List.length_map]; omega), List.map_map]
  conv => rhs; rw [← List.map_id l]
  apply List.map_congr_left
  intro a ha
  have := h.2 a ha
  unfold attrOK at this
  rw [Bool.and_eq_true, Bool.and_eq_true] at this
  exact toldA_attr this.1.1
theorem told_princ {p : Pr} (h : rightP p = true) : toldP (princN p) = p := by
  unfold rightP at h
  rw [Bool.and_eq_true, Bool.and_eq_true, Bool.and_eq_true, decide_eq_true_eq, decide_eq_true_eq] at h
  unfold toldP princN wordN kidF
  simp only [Nd.kids, Nd.body, List.getD_cons_zero, List.getD_cons_succ]
  rw [str_bytesI, List.take_of_length_le (by rw [List.length_map]; omega), List.map_map]
  cases p with
  | mk r l =>
    congr 1
    conv => rhs; rw [← List.map_id l]
    apply List.map_congr_left
    intro a ha
    exact str_bytesI a
/-- The name, or the principal, whose node this is. -/
def getN (n : Nd) : Option (List At) := if rightN (toldN n) = true ∧ sameN (nameN (toldN n)) n = true then some (toldN n) else none
def getP (n : Nd) : Option Pr := if rightP (toldP n) = true ∧ sameN (princN (toldP n)) n = true then some (toldP n) else none
theorem getN_name {l : List At} (h : rightN l = true) : getN (nameN l) = some l := by
  unfold getN
  rw [told_name h, if_pos ⟨h, sameN_refl _⟩]
theorem getP_princ {p : Pr} (h : rightP p = true) : getP (princN p) = some p := by
  unfold getP
  rw [told_princ h, if_pos ⟨h, sameN_refl _⟩]
theorem getN_some {n : Nd} {l : List At} (h : getN n = some l) : rightN l = true ∧ nameN l = n := by
  unfold getN at h
  split at h
  · rename_i hc
    cases h
    exact ⟨hc.1, (sameN_iff _ _).1 hc.2⟩
  · cases h
theorem getP_some {n : Nd} {p : Pr} (h : getP n = some p) : rightP p = true ∧ princN p = n := by
  unfold getP at h
  split at h
  · rename_i hc
    cases h
    exact ⟨hc.1, (sameN_iff _ _).1 hc.2⟩
  · cases h
/-! ### The same -/
def eqA (a b : At) : Bool := decide (a.oid = b.oid) && decide (prepF a.text = prepF b.text)
def eqL : List At → List At → Bool
  | [], [] => true
  | a :: us, b :: vs => eqA a b && eqL us vs
  | _, _ => false
theorem eqL_len : ∀ {a b : List At}, eqL a b = true → a.length = b.length
  | [], [], _ => rfl
  | [], _ :: _, h => by simp [eqL] at h
  | _ :: _, [], h => by simp [eqL] at h
  | a :: us, b :: vs, h => by
    unfold eqL at h
    rw [Bool.and_eq_true] at h
    simp [eqL_len h.2]
theorem eqL_no {a b : List At} (h : a.length ≠ b.length) : eqL a b = false := by
  cases e : eqL a b
  · rfl
  · exact absurd (eqL_len e) h
theorem eqL_drop {a b : List At} (i : Nat) (h1 : i < a.length) (h2 : i < b.length) : eqL (a.drop i) (b.drop i) = (eqA a[i] b[i] && eqL (a.drop (i + 1)) (b.drop (i + 1))) := by
  rw [List.drop_eq_getElem_cons h1, List.drop_eq_getElem_cons h2]
  conv => lhs; unfold eqL
theorem eqL_iff : ∀ {a b : List At}, eqL a b = true ↔ a.length = b.length ∧ ∀ (i : Nat) (h1 : i < a.length) (h2 : i < b.length), eqA a[i] b[i] = true
  | [], [] => by simp [eqL]
  | [], _ :: _ => by simp [eqL]
  | _ :: _, [] => by simp [eqL]
  | x :: us, y :: vs => by
    unfold eqL
    rw [Bool.and_eq_true, eqL_iff (a := us) (b := vs)]
    constructor
    · rintro ⟨h0, hl, h⟩
      refine ⟨by simp [hl], fun i h1 h2 => ?_⟩
      cases i with
      | zero => exact h0
      | succ i => exact h i (by simpa using h1) (by simpa using h2)
    · rintro ⟨hl, h⟩
      exact ⟨h 0 (by simp) (by simp), by simpa using hl, fun i h1 h2 => h (i + 1) (by simpa using h1) (by simpa using h2)⟩
def undF (a base : List At) : Bool := decide (base.length ≤ a.length) && eqL (a.take base.length) base
end Go.Proofs.YthcancakkkjpaaaGreatDoor.nmc
