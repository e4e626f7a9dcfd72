/- The document's reading of names and principals, as plain functions: it is the program's. -/
import Derived.Test.YthcancakkkjpaaaGreatDoorRj
import Derived.Test.YthcancakkkjpaaaGreatDoorSe
namespace Go.Proofs.YthcancakkkjpaaaGreatDoor.nmc
open Go.RowKit Go.Proofs.YthcancakkkjpaaaGreatDoor.tlvc Go.Proofs.YthcancakkkjpaaaGreatDoor.tlvd Go.Proofs.YthcancakkkjpaaaGreatDoor.ndc Go.Proofs.YthcancakkkjpaaaGreatDoor.txc Go.Proofs.YthcancakkkjpaaaGreatDoor.txm Go.Proofs.YthcancakkkjpaaaGreatDoor.intc Go.Proofs.YthcancakkkjpaaaGreatDoor.intm
set_option linter.unusedVariables false
set_option linter.unusedSimpArgs false
def textOK (t : Int) (n : Nd) : Bool := rightD t n.body && plainB n t
def kOK (k : Nd) : Bool := kidsB k 2 && (oidOK (kidF k 0) && textOK 12 (kidF k 1))
def rgN (n : Nd) : Option (List At) := if kidsB n (-1) = true ∧ n.kids.all kOK = true ∧ rightN (n.kids.map toldA) = true then some (n.kids.map toldA) else none
def told2 (n : Nd) : Pr := ⟨strOfNums (kidF n 0).body, (kidF n 1).kids.map fun k => strOfNums k.body⟩
def rgP (n : Nd) : Option Pr := if kidsB n 2 = true ∧ (textOK 27 (kidF n 0) = true ∧ kidsB (kidF n 1) (-1) = true) ∧ (kidF n 1).kids.all (textOK 27) = true ∧ rightP (told2 n) = true then some (told2 n) else none
def Fit2 (n : Nd) : Prop := ∀ k ∈ n.kids, Fit k.body ∧ ∀ j ∈ k.kids, Fit j.body
theorem nd_fit {B : Nat → Prop} {w : World} {n : Nd} {c0 c1 c2 : Value} (h : NdC B w n c0 c1 c2) : Fit n.body := by
  obtain ⟨t, b, ks⟩ := n
  obtain ⟨_, _, ⟨A, la, ca, _, _, _, h3, _⟩, _⟩ := NdC.kidsL h
  exact h3.2.1
theorem nd_kid {B : Nat → Prop} {w : World} {n : Nd} {c0 c1 c2 : Value} (h : NdC B w n c0 c1 c2) {k : Nd} (hk : k ∈ n.kids) : ∃ d0 d1 d2, NdC B w k d0 d1 d2 := by
  obtain ⟨t, b, ks⟩ := n
  obtain ⟨_, _, _, K, ck, _, _, _, hL⟩ := NdC.kidsL h
  obtain ⟨i, hi, rfl⟩ := List.getElem_of_mem (show k ∈ ks from hk)
  obtain ⟨g, off, cs, _, _, _, d0, d1, d2, _, h⟩ := hL.at i hi
  exact ⟨d0, d1, d2, h⟩
theorem fit2_of {B : Nat → Prop} {w : World} {n : Nd} {c0 c1 c2 : Value} (h : NdC B w n c0 c1 c2) : Fit2 n := fun k hk => by
  obtain ⟨d0, d1, d2, h1⟩ := nd_kid h hk
  refine ⟨nd_fit h1, fun j hj => ?_⟩
  obtain ⟨e0, e1, e2, h2⟩ := nd_kid h1 hj
  exact nd_fit h2
theorem plainB_iff (n : Nd) (t : Int) : plainB n t = true ↔ n = .mk t n.body [] := by
  unfold plainB
  rw [Bool.and_eq_true, decide_eq_true_eq, decide_eq_true_eq, List.length_eq_zero_iff]
  obtain ⟨t', b, ks⟩ := n
  simp only [Nd.tag, Nd.kids, Nd.body, Nd.mk.injEq, true_and]
theorem kidsB_iff (n : Nd) (many : Int) : kidsB n many = true ↔ n = .mk 48 [] n.kids ∧ (many < 0 ∨ (n.kids.length : Int) = many) := by
  unfold kidsB
  rw [Bool.and_eq_true, Bool.and_eq_true, Bool.or_eq_true, decide_eq_true_eq, decide_eq_true_eq, decide_eq_true_eq, decide_eq_true_eq, List.length_eq_zero_iff]
  obtain ⟨t', b, ks⟩ := n
  simp only [Nd.tag, Nd.kids, Nd.body, Nd.mk.injEq, and_true, and_assoc]
theorem attr_back {k : Nd} (h : kOK k = true) (hf : ∀ j ∈ k.kids, Fit j.body) : attrN (toldA k) = k := by
  unfold kOK oidOK textOK at h
  simp only [Bool.and_eq_true, decide_eq_true_eq] at h
  obtain ⟨h1, ⟨h2, h3⟩, h4, h5⟩ := h
  obtain ⟨e1, h1⟩ := (kidsB_iff _ _).1 h1
  have h1 : k.kids.length = 2 := by omega
  obtain ⟨t, b, ks⟩ := k
  match ks, h1 with
  | [o, x], _ =>
    have e3 := (plainB_iff _ _).1 h3
    have e5 := (plainB_iff _ _).1 h5
    have ko : kidF (.mk t b [o, x]) 0 = o := rfl
    have kx : kidF (.mk t b [o, x]) 1 = x := rfl
    rw [ko] at h2 e3
    rw [kx] at e5
    have hp := (oidF_ok (xs := o.body) (l := (oidF o.body).1) (Prod.ext rfl h2)).2
    have hb := bytesI_str (hf x (by simp [Nd.kids]))
    rw [e1]
    unfold attrN toldA
    have ko' : kidF (.mk 48 [] (Nd.mk t b [o, x]).kids) 0 = o := rfl
    have kx' : kidF (.mk 48 [] (Nd.mk t b [o, x]).kids) 1 = x := rfl
    rw [ko', kx', hp, hb, ← e3, ← e5]
    rfl
theorem attrOK_iff (a : At) : attrOK a = true ↔ objB a.oid = true ∧ a.text.size ≤ 64 ∧ utfS a.text = true := by
  unfold attrOK
  simp only [Bool.and_eq_true, decide_eq_true_eq, and_assoc]
theorem kOK_attr {a : At} (h : attrOK a = true) : kOK (attrN a) = true := by
  obtain ⟨h1, h2, h3⟩ := (attrOK_iff a).1 h
  unfold kOK oidOK textOK
  have e1 : kidF (attrN a) 0 = .mk 6 (encO a.oid) [] := rfl
  have e2 : kidF (attrN a) 1 = .mk 12 (bytesI a.text) [] := rfl
  have e3 : rightD 12 (bytesI a.text) = utfB (bytesI a.text) := rfl
  have e4 : decide ((oidF (encO a.oid)).2 = 0) = true := by rw [decide_eq_true_eq, oidF_enc h1]
  rw [e1, e2]
  show (kidsB (attrN a) 2 && ((decide ((oidF (encO a.oid)).2 = 0) && plainB (.mk 6 (encO a.oid) []) 6) && (rightD 12 (bytesI a.text) && plainB (.mk 12 (bytesI a.text) []) 12))) = true
  rw [e4, e3, utf_bytesI, h3]
  rfl
theorem rightN_iff (l : List At) : rightN l = true ↔ l.length ≤ 8 ∧ ∀ a ∈ l, attrOK a = true := by
  unfold rightN
  rw [Bool.and_eq_true, decide_eq_true_eq, List.all_eq_true]
theorem told_all {l : List At} (h : rightN l = true) : (nameN l).kids.map toldA = l := by
  have h2 := told_name h
  unfold toldN at h2
  rwa [List.take_of_length_le (by show (l.map attrN).length ≤ 8; rw [List.length_map]; exact ((rightN_iff l).1 h).1)] at h2
theorem rg_name {l : List At} (h : rightN l = true) : rgN (nameN l) = some l := by
  unfold rgN
  rw [told_all h, if_pos]
  refine ⟨rfl, ?_, h⟩
  rw [List.all_eq_true]
  intro k hk
  obtain ⟨a, ha, rfl⟩ := List.mem_map.1 (show k ∈ l.map attrN from hk)
  exact kOK_attr (((rightN_iff l).1 h).2 a ha)
theorem getN_rg {n : Nd} (hf : Fit2 n) : getN n = rgN n := by
  cases hg : getN n with
  | some l =>
    obtain ⟨h1, h2⟩ := getN_some hg
    rw [← h2, rg_name h1]
  | none =>
    unfold rgN
    rw [if_neg]
    rintro ⟨k1, k2, k3⟩
    obtain ⟨e1, _⟩ := (kidsB_iff _ _).1 k1
    have h8 := ((rightN_iff _).1 k3).1
    rw [List.length_map] at h8
    have et : toldN n = n.kids.map toldA := by unfold toldN; rw [List.take_of_length_le h8]
    have en : nameN (n.kids.map toldA) = n := by
      unfold nameN
      rw [List.map_map]
      have : n.kids.map (attrN ∘ toldA) = n.kids := by
        conv => rhs; rw [← List.map_id n.kids]
        apply List.map_congr_left
        intro k hk
        exact attr_back (List.all_eq_true.1 k2 k hk) (hf k hk).2
      rw [this]
      exact e1.symm
    unfold getN at hg
    rw [et, en, if_pos ⟨k3, sameN_refl _⟩] at hg
    cases hg
theorem textOK_word {s : ByteArray} (h : wordOK s = true) : textOK 27 (wordN s) = true := by
  unfold wordOK at h
  rw [Bool.and_eq_true] at h
  have e : rightD 27 (bytesI s) = rightB 27 (bytesI s) := rfl
  unfold textOK wordN
  simp only [Nd.body]
  rw [e, h.2]
  rfl
theorem word_back {k : Nd} (h : textOK 27 k = true) (hf : Fit k.body) : wordN (strOfNums k.body) = k := by
  unfold textOK at h
  rw [Bool.and_eq_true] at h
  unfold wordN
  rw [bytesI_str hf]
  exact ((plainB_iff _ _).1 h.2).symm
theorem rightP_iff (p : Pr) : rightP p = true ↔ wordOK p.realm = true ∧ 1 ≤ p.names.length ∧ p.names.length ≤ 8 ∧ ∀ s ∈ p.names, wordOK s = true := by
  unfold rightP
  simp only [Bool.and_eq_true, decide_eq_true_eq, List.all_eq_true, and_assoc]
theorem told_all2 {p : Pr} (h : rightP p = true) : told2 (princN p) = p := by
  have h2 := told_princ h
  unfold toldP at h2
  have e : (kidF (princN p) 1).kids = p.names.map wordN := rfl
  rw [e, List.take_of_length_le (by rw [List.length_map]; exact ((rightP_iff p).1 h).2.2.1)] at h2
  exact h2
theorem rg_princ {p : Pr} (h : rightP p = true) : rgP (princN p) = some p := by
  obtain ⟨h1, h2, h3, h4⟩ := (rightP_iff p).1 h
  unfold rgP
  rw [told_all2 h, if_pos]
  refine ⟨rfl, ⟨textOK_word h1, rfl⟩, ?_, h⟩
  rw [List.all_eq_true]
  intro k hk
  obtain ⟨a, ha, rfl⟩ := List.mem_map.1 (show k ∈ p.names.map wordN from hk)
  exact textOK_word (h4 a ha)
theorem getP_rg {n : Nd} (hf : Fit2 n) : getP n = rgP n := by
  cases hg : getP n with
  | some p =>
    obtain ⟨h1, h2⟩ := getP_some hg
    rw [← h2, rg_princ h1]
  | none =>
    unfold rgP
    rw [if_neg]
    rintro ⟨k1, ⟨k2, k3⟩, k4, k5⟩
    obtain ⟨e1, hl⟩ := (kidsB_iff _ _).1 k1
    obtain ⟨e3, _⟩ := (kidsB_iff _ _).1 k3
    have hl : n.kids.length = 2 := by omega
    have h8 := ((rightP_iff _).1 k5).2.2.1
    have h8 : (kidF n 1).kids.length ≤ 8 := by
      unfold told2 at h8
      rwa [List.length_map] at h8
    have et : toldP n = told2 n := by unfold toldP told2; rw [List.take_of_length_le h8]
    have en : princN (told2 n) = n := by
      obtain ⟨t, b, ks⟩ := n
      match ks, hl with
      | [r, m], _ =>
        have er : kidF (.mk t b [r, m]) 0 = r := rfl
        have em : kidF (.mk t b [r, m]) 1 = m := rfl
        rw [er] at k2
        rw [em] at e3 k4
        unfold princN told2
        rw [er, em]
        show Nd.mk 48 [] [wordN (strOfNums r.body), .mk 48 [] ((m.kids.map fun k => strOfNums k.body).map wordN)] = _
        have hr := hf r (by simp [Nd.kids])
        have hm := hf m (by simp [Nd.kids])
        rw [List.map_map, word_back k2 hr.1]
        have : m.kids.map (wordN ∘ fun k => strOfNums k.body) = m.kids := by
          conv => rhs; rw [← List.map_id m.kids]
          apply List.map_congr_left
          intro k hk
          exact word_back (List.all_eq_true.1 k4 k hk) (hm.2 k hk)
        rw [this, ← e3]
        exact e1.symm
    unfold getP at hg
    rw [et, en, if_pos ⟨k5, sameN_refl _⟩] at hg
    cases hg
end Go.Proofs.YthcancakkkjpaaaGreatDoor.nmc
