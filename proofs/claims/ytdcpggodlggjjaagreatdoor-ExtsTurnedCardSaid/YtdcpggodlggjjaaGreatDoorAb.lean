/- Extensions: what is right, and whose node is which: plain facts on what is put. Nothing here names a function of the program. -/
import Derived.Test.YtdcpggodlggjjaaGreatDoorAa
import Derived.Test.YtdcpggodlggjjaaGreatDoorIe
import Derived.Test.YtdcpggodlggjjaaGreatDoorPe
namespace Go.Proofs.YtdcpggodlggjjaaGreatDoor.nmc
open Go.RowKit Go.Proofs.YtdcpggodlggjjaaGreatDoor.tlvc Go.Proofs.YtdcpggodlggjjaaGreatDoor.tlvd Go.Proofs.YtdcpggodlggjjaaGreatDoor.ndc Go.Proofs.YtdcpggodlggjjaaGreatDoor.txc Go.Proofs.YtdcpggodlggjjaaGreatDoor.txm Go.Proofs.YtdcpggodlggjjaaGreatDoor.intc Go.Proofs.YtdcpggodlggjjaaGreatDoor.intm
set_option linter.unusedVariables false
set_option linter.unusedSimpArgs false
/-! ### What is written -/
/-- It is written, by at most so many bytes; it is not. -/
def okW (n : Nd) (o L : Nat) : Prop := ∃ b, writeF n o = .ok b ∧ b.length ≤ L
def noW (n : Nd) (o : Nat) : Prop := ∃ e, writeF n o = .no e
theorem okW.mono {n : Nd} {o L M : Nat} (h : okW n o L) (hl : L ≤ M) : okW n o M := by
 obtain ⟨b, h1, h2⟩ := h
 exact ⟨b, h1, Nat.le_trans h2 hl⟩
theorem putBytes_le (t : Int) (xs : List Int) : (putBytes t xs).length ≤ xs.length + 4 := by
 rw [put_len, hdr_length]
 split
 ·omega
 ·split <;> omega
theorem leafW {t : Int} {b : List Int} {o : Nat} (ho : o < 32) (ht : t % 32 ≠ 31) (hc : compB t = false) (he : endlessB t = false) (hb : b.length ≤ 65535) : writeF (.mk t b []) o = if mayF t b = true then .ok (putBytes t b) else .no 43 := by
 unfold writeF aloneF
 rw [if_neg (by omega : ¬ 32 ≤ o), if_neg ht]
 by_cases hm : mayF t b = true
 ·rw [if_pos hm, if_neg (by decide), if_pos hm]
  have hmis : misF t b ([] : List Nd).length = false := by unfold misF; rw [hc]; rfl
  rw [hmis, hc, if_neg (by decide), if_neg (by decide)]
  exact putW_put he hb
 ·rw [if_neg hm, if_pos (by decide), if_neg hm]
theorem leaf_ok {t : Int} {b : List Int} {o : Nat} (ho : o < 32) (ht : t % 32 ≠ 31) (hc : compB t = false) (he : endlessB t = false) (hb : b.length ≤ 65535) (hm : mayF t b = true) : okW (.mk t b []) o (b.length + 4) :=
 ⟨_, by rw [leafW ho ht hc he hb, if_pos hm], putBytes_le _ _⟩
theorem leaf_no {t : Int} {b : List Int} {o : Nat} (ho : o < 32) (ht : t % 32 ≠ 31) (hc : compB t = false) (he : endlessB t = false) (hb : b.length ≤ 65535) (hm : mayF t b = false) : noW (.mk t b []) o :=
 ⟨_, by rw [leafW ho ht hc he hb, hm]; rfl⟩
theorem listW {o L : Nat} : ∀ (ks : List Nd) (k : WK), (∀ n ∈ ks, okW n o L) → k.body.length + ks.length * L ≤ 65535 → ∃ k', writeL ks o k = .ok k' ∧ k'.body.length ≤ k.body.length + ks.length * L
 | [], k, _, _ => ⟨k, writeL_nil, by omega⟩
 | n :: ks, k, h, hl => by
  obtain ⟨b, h1, h2⟩ := h n (by simp)
  rw [List.length_cons, Nat.succ_mul] at hl ⊢
  have hk : (k.add b).body.length ≤ k.body.length + L := by
   unfold WK.add
   simp only
   split
   ·rw [List.length_append]; omega
   ·omega
  obtain ⟨k', h3, h4⟩ := listW ks (k.add b) (fun m hm => h m (by simp [hm])) (by omega)
  exact ⟨k', by rw [writeL_ok h1]; exact h3, by omega⟩
theorem listW_no {o : Nat} : ∀ (ks : List Nd) (k : WK), (∃ n ∈ ks, noW n o) → ∃ e, writeL ks o k = .no e
 | [], _, ⟨n, hn, _⟩ => by simp at hn
 | n :: ks, k, ⟨m, hm, e, he⟩ => by
  cases hw : writeF n o with
  | no e1 => exact ⟨e1, writeL_no hw⟩
  | ok b =>
   rw [writeL_ok hw]
   rcases List.mem_cons.1 hm with rfl | hm
   ·rw [hw] at he; cases he
   ·exact listW_no ks _ ⟨m, hm, e, he⟩
theorem seq_tag {t : Int} (ht : t = 48 ∨ t = 160 ∨ t = 161) : t % 32 ≠ 31 ∧ compB t = true ∧ endlessB t = false ∧ mayF t [] = true ∧ t ≠ 49 := by
 rcases ht with rfl | rfl | rfl
 ·exact ⟨by decide, by decide, by decide, rfl, by decide⟩
 ·exact ⟨by decide, by decide, by decide, rfl, by decide⟩
 ·exact ⟨by decide, by decide, by decide, rfl, by decide⟩
theorem seqF_of {t : Int} {ks : List Nd} {o : Nat} (ho : o < 32) (ht : t = 48 ∨ t = 160 ∨ t = 161) : writeF (.mk t [] ks) o = finW t (kresF t (writeL ks (o + 1) wk0)) := by
 obtain ⟨h1, h2, h3, h4, h5⟩ := seq_tag ht
 unfold writeF aloneF
 rw [if_neg (by omega : ¬ 32 ≤ o), if_neg h1, if_pos h4, if_neg (by decide)]
 have hmis : misF t [] ks.length = false := by unfold misF; rw [h2]; rfl
 rw [hmis, h2, if_neg (by decide), if_pos rfl]
theorem seqW {t : Int} {ks : List Nd} {o L : Nat} (ho : o < 32) (ht : t = 48 ∨ t = 160 ∨ t = 161) (h : ∀ n ∈ ks, okW n (o + 1) L) (hl : ks.length * L ≤ 65535) : okW (.mk t [] ks) o (ks.length * L + 4) := by
 obtain ⟨k, h1, h2⟩ := listW ks wk0 h (by show 0 + _ ≤ _; omega)
 obtain ⟨_, _, g3, _, g5⟩ := seq_tag ht
 have h2 : k.body.length ≤ ks.length * L := by have : (wk0.body).length = 0 := rfl; omega
 refine ⟨putBytes t k.body, ?_, Nat.le_trans (putBytes_le _ _) (by omega)⟩
 rw [seqF_of ho ht, h1]
 unfold kresF
 simp only
 rw [if_neg (fun e => g5 e.1)]
 exact putW_put g3 (by omega)
theorem seq_no {t : Int} {ks : List Nd} {o : Nat} (ho : o < 32) (ht : t = 48 ∨ t = 160 ∨ t = 161) (h : ∃ n ∈ ks, noW n (o + 1)) : noW (.mk t [] ks) o := by
 obtain ⟨e, he⟩ := listW_no ks wk0 h
 exact ⟨e, by rw [seqF_of ho ht, he]; rfl⟩
/-! ### Nodes of the parts -/
def zeroN : Nd := .mk 0 [] []
def truthN : Nd := .mk 1 (boolB true) []
def numN (n : Int) : Nd := .mk 2 (putI n) []
def oidN (l : List Int) : Nd := .mk 6 (putO l).1 []
theorem oidN_of {l : List Int} (h : objB l = true) : oidN l = .mk 6 (encO l) [] := by unfold oidN; rw [putO_yes h]
theorem oidN_no' {l : List Int} (h : objB l = false) : oidN l = .mk 6 [] [] := by unfold oidN; rw [putO_no h]
def nameZ (l : List At) : Nd := if rightN l = true then nameN l else zeroN
def princZ (p : Pr) : Nd := if rightP p = true then princN p else zeroN
theorem zero_no {o : Nat} (ho : o < 32) : noW zeroN o := leaf_no ho (by decide) (by decide) (by decide) (by decide) rfl
theorem oid_ok {l : List Int} {o : Nat} (ho : o < 32) (h : objB l = true) : okW (oidN l) o 64 := by
 rw [oidN_of h]
 have hl := encO_length h
 refine (leaf_ok (t := 6) (b := encO l) ho (by decide) (by decide) (by decide) (by omega) ?_).mono (by omega)
 have e : mayF 6 (encO l) = decide ((oidF (encO l)).2 = 0) := rfl
 rw [e, oidF_enc h]
 rfl
theorem oid_no {l : List Int} {o : Nat} (ho : o < 32) (h : objB l = false) : noW (oidN l) o := by
 rw [oidN_no' h]
 refine leaf_no ho (by decide) (by decide) (by decide) (by decide) ?_
 have e : mayF 6 [] = decide ((oidF []).2 = 0) := rfl
 rw [e]
 rfl
theorem word_ok {s : ByteArray} {o : Nat} (ho : o < 32) (h : wordOK s = true) : okW (wordN s) o 68 := by
 unfold wordOK at h
 rw [Bool.and_eq_true, Bool.and_eq_true, decide_eq_true_eq, decide_eq_true_eq] at h
 have hl := bytesI_length s
 refine (leaf_ok ho (by decide) (by decide) (by decide) (by omega) ?_).mono (by omega)
 exact h.2
theorem attr_ok {a : At} {o : Nat} (ho : o + 1 < 32) (h : attrOK a = true) : okW (attrN a) o 140 := by
 unfold attrOK at h
 rw [Bool.and_eq_true, Bool.and_eq_true, decide_eq_true_eq] at h
 refine (seqW (L := 68) (by omega) (.inl rfl) (fun n hn => ?_) (by simp)).mono (by simp)
 simp only [List.mem_cons, List.mem_nil_iff, or_false] at hn
 rcases hn with rfl | rfl
 ·have := oid_ok (o := o + 1) ho h.1.1
  rw [oidN_of h.1.1] at this
  exact this.mono (by decide)
 ·have hl := bytesI_length a.text
  refine (leaf_ok ho (by decide) (by decide) (by decide) (by omega) ?_).mono (by omega)
  have e : mayF 12 (bytesI a.text) = utfB (bytesI a.text) := rfl
  rw [e, utf_bytesI]
  exact h.2
theorem name_ok {l : List At} {o : Nat} (ho : o + 2 < 32) (h : rightN l = true) : okW (nameN l) o 1124 := by
 unfold rightN at h
 rw [Bool.and_eq_true, decide_eq_true_eq, List.all_eq_true] at h
 have hl : (l.map attrN).length ≤ 8 := by rw [List.length_map]; exact h.1
 refine (seqW (L := 140) (by omega) (.inl rfl) (fun n hn => ?_) (by omega)).mono (by omega)
 obtain ⟨a, ha, rfl⟩ := List.mem_map.1 hn
 exact attr_ok (by omega) (h.2 a ha)
theorem princ_ok {p : Pr} {o : Nat} (ho : o + 2 < 32) (h : rightP p = true) : okW (princN p) o 1200 := by
 unfold rightP at h
 rw [Bool.and_eq_true, Bool.and_eq_true, Bool.and_eq_true, decide_eq_true_eq, decide_eq_true_eq, List.all_eq_true] at h
 obtain ⟨⟨⟨h1, h2⟩, h3⟩, h4⟩ := h
 refine (seqW (L := 548) (by omega) (.inl rfl) (fun n hn => ?_) (by simp)).mono (by simp)
 simp only [List.mem_cons, List.mem_nil_iff, or_false] at hn
 rcases hn with rfl | rfl
 ·exact (word_ok (by omega) h1).mono (by decide)
 ·have hl : (p.names.map wordN).length ≤ 8 := by rw [List.length_map]; exact h3
  refine (seqW (L := 68) (by omega) (.inl rfl) (fun n hn => ?_) (by omega)).mono (by omega)
  obtain ⟨a, ha, rfl⟩ := List.mem_map.1 hn
  exact word_ok (by omega) (h4 a ha)
/-- A list's nodes are written just if all are right. -/
theorem listed_ways {α : Type} (g : α → Nd) (ok : α → Bool) {t : Int} {o L : Nat} (ho : o < 32) (ht : t = 48 ∨ t = 160 ∨ t = 161) (h1 : ∀ a, ok a = true → okW (g a) (o + 1) L) (h0 : ∀ a, ok a = false → noW (g a) (o + 1)) {l : List α} (hl : l.length ≤ 16) (hL : 16 * L + 4 ≤ 65535) :
 if l.all ok = true then okW (.mk t [] (l.map g)) o (16 * L + 4) else noW (.mk t [] (l.map g)) o := by
 have hm : (l.map g).length ≤ 16 := by rw [List.length_map]; exact hl
 have hm2 : (l.map g).length * L ≤ 16 * L := Nat.mul_le_mul_right _ hm
 by_cases h : l.all ok = true
 ·rw [if_pos h]
  rw [List.all_eq_true] at h
  refine (seqW (L := L) ho ht (fun n hn => ?_) (by omega)).mono (by omega)
  obtain ⟨a, ha, rfl⟩ := List.mem_map.1 hn
  exact h1 a (h a ha)
 ·rw [if_neg h]
  have h : ¬ ∀ a ∈ l, ok a = true := fun e => h (List.all_eq_true.2 e)
  obtain ⟨a, ha, hn⟩ : ∃ a ∈ l, ok a = false := by
   refine Classical.byContradiction fun hc => h fun a ha => ?_
   cases e : ok a
   ·exact absurd ⟨a, ha, e⟩ hc
   ·rfl
  exact seq_no ho ht ⟨g a, List.mem_map.2 ⟨a, ha, rfl⟩, h0 a hn⟩
/-! ### The five -/
def koid (i : Nat) : List Int := [2, 5, 29, [19, 15, 37, 17, 30].getD i 0]
def kcrit (i : Nat) : Bool := [true, true, false, false, true].getD i false
def ks5 : List Nat := [0, 1, 2, 3, 4]
def knownOids : List (List Int) := [koid 0, koid 1, koid 2, koid 3, koid 4]
def kthere (x : Ex) : Nat → Bool
 | 0 => x.hasCA
 | 1 => decide (x.usage ≠ 0)
 | 2 => decide (0 < x.eku.length)
 | 3 => decide (0 < x.princs.length)
 | _ => decide (0 < x.permit.length) || decide (0 < x.exclude.length)
def onlyL (b : Bool) (n : Nd) : List Nd := if b = true then [n] else []
def saysF (x : Ex) : Nat → Nd
 | 0 => .mk 48 [] (onlyL x.ca truthN ++ onlyL (x.ca && decide (x.path ≠ -1)) (numN x.path))
 | 1 => .mk 3 (putM x.usage) []
 | 2 => .mk 48 [] (x.eku.map oidN)
 | 3 => .mk 48 [] (x.princs.map princZ)
 | _ => .mk 48 [] (onlyL (decide (0 < x.permit.length)) (.mk 160 [] (x.permit.map nameZ)) ++ onlyL (decide (0 < x.exclude.length)) (.mk 161 [] (x.exclude.map nameZ)))
def extF (o : Od) : Nd := .mk 48 [] (onlyL true (oidN o.oid) ++ (onlyL o.crit truthN ++ onlyL true (.mk 4 o.body [])))
def boundedX (x : Ex) : Bool :=
 decide (x.eku.length ≤ 16) && decide (x.princs.length ≤ 16) && decide (x.permit.length ≤ 16) && decide (x.exclude.length ≤ 16) && decide (x.odd.length ≤ 16) &&
  (if x.ca = true then x.hasCA && decide (-1 ≤ x.path) && decide (x.path ≤ 100) else decide (x.path = 0))
def oddsX : List (List Int) → List Od → Bool
 | _, [] => true
 | taken, o :: l => objB o.oid && decide (o.body.length ≤ 1024) && !decide (o.oid ∈ taken) && oddsX (taken ++ [o.oid]) l
def partX (x : Ex) : Nat → Bool
 | 2 => x.eku.all objB
 | 3 => x.princs.all rightP
 | 4 => x.permit.all rightN && x.exclude.all rightN
 | _ => true
def rightX (x : Ex) : Bool := boundedX x && oddsX knownOids x.odd && (partX x 2 && partX x 3 && partX x 4)
/-- The nodes of the known ones that are there; none, if one of them can't be written. -/
def knownL (x : Ex) : List Nat → Option (List Nd)
 | [] => some []
 | i :: is => if kthere x i = true then
  match writeF (saysF x i) 0 with
  | .no _ => none
  | .ok b => (knownL x is).map (extF ⟨koid i, kcrit i, b⟩ :: ·)
  else knownL x is
def putX (x : Ex) : Option Nd := if (boundedX x && oddsX knownOids x.odd) = true then (knownL x ks5).map (fun l => .mk 48 [] (l ++ x.odd.map extF)) else none
def bytesN (n : Nd) : List Int := match writeF n 0 with
 | .ok b => b
 | .no _ => []
def knownN (x : Ex) (is : List Nat) : List Nd := (is.filter (kthere x)).map fun i => extF ⟨koid i, kcrit i, bytesN (saysF x i)⟩
def nodeX (x : Ex) : Nd := .mk 48 [] (knownN x ks5 ++ x.odd.map extF)
theorem bits_may {m : Int} (h : 0 ≤ m ∧ m ≤ 65535) : mayF 3 (putM m) = true := by
 have e : mayF 3 (putM m) = bitsB (putM m) := rfl
 rw [e]
 by_cases h0 : m = 0
 ·subst h0; rfl
 have key : ∀ k : Fin 256, 1 ≤ (k.val : Int) → ((8 : Int) - lenB (k.val : Int) < 8 ∧ rv (k.val : Int) % 2 ^ ((8 : Int) - lenB (k.val : Int)).toNat = 0) := by decide +kernel
 by_cases h1 : m < 256
 ·rw [putM_low (by omega) h1, bitsB_more (by simp) ?_]
  ·obtain ⟨k, rfl⟩ := Int.eq_ofNat_of_zero_le h.1
   exact decide_eq_true (key ⟨k, by omega⟩ (by show (1 : Int) ≤ (k : Int); omega)).2
  ·obtain ⟨k, rfl⟩ := Int.eq_ofNat_of_zero_le h.1
   exact (key ⟨k, by omega⟩ (by show (1 : Int) ≤ (k : Int); omega)).1
 ·obtain ⟨q, hq⟩ : ∃ q, m / 256 = q := ⟨_, rfl⟩
  have hq0 : 1 ≤ q ∧ q ≤ 255 := by omega
  rw [putM_high (by omega), hq, bitsB_more (by simp) ?_]
  ·obtain ⟨k, rfl⟩ := Int.eq_ofNat_of_zero_le (show 0 ≤ q by omega)
   exact decide_eq_true (key ⟨k, by omega⟩ (by show (1 : Int) ≤ (k : Int); omega)).2
  ·obtain ⟨k, rfl⟩ := Int.eq_ofNat_of_zero_le (show 0 ≤ q by omega)
   exact (key ⟨k, by omega⟩ (by show (1 : Int) ≤ (k : Int); omega)).1
theorem intF_put' {n : Int} (hn : I64 n) : intF (putI n) = (n, 0) := by
 have h1 := putI_length n
 have h2 := width_bd n
 have e : dec ((putI n).take 8) = n := by rw [List.take_of_length_le (by omega), dec_put hn]
 unfold intF
 rw [e, if_pos rfl]
theorem bounded_parts {x : Ex} (h : boundedX x = true) : x.eku.length ≤ 16 ∧ x.princs.length ≤ 16 ∧ x.permit.length ≤ 16 ∧ x.exclude.length ≤ 16 ∧ x.odd.length ≤ 16 ∧ (if x.ca = true then x.hasCA && decide (-1 ≤ x.path) && decide (x.path ≤ 100) else decide (x.path = 0)) = true := by
 unfold boundedX at h
 simp only [Bool.and_eq_true, decide_eq_true_eq] at h
 obtain ⟨⟨⟨⟨⟨h1, h2⟩, h3⟩, h4⟩, h5⟩, h6⟩ := h
 exact ⟨h1, h2, h3, h4, h5, h6⟩
theorem onlyL_mem {b : Bool} {n m : Nd} (h : m ∈ onlyL b n) : b = true ∧ m = n := by
 unfold onlyL at h
 split at h
 ·rename_i hb; exact ⟨hb, by simpa using h⟩
 ·simp at h
theorem onlyL_len (b : Bool) (n : Nd) : (onlyL b n).length ≤ 1 := by unfold onlyL; split <;> simp
/-- What one says is written just if its part is right. -/
theorem says_ways {x : Ex} (hb : boundedX x = true) (hu : 0 ≤ x.usage ∧ x.usage ≤ 65535) : ∀ (i : Nat), i < 5 → (partX x i = true ∧ okW (saysF x i) 0 65535) ∨ (partX x i = false ∧ noW (saysF x i) 0)
 | 0, _ => by
  refine .inl ⟨rfl, ?_⟩
  obtain ⟨_, _, _, _, _, hp⟩ := bounded_parts hb
  have l1 := onlyL_len x.ca truthN
  have l2 := onlyL_len (x.ca && decide (x.path ≠ -1)) (numN x.path)
  have hl : (onlyL x.ca truthN ++ onlyL (x.ca && decide (x.path ≠ -1)) (numN x.path)).length ≤ 2 := by rw [List.length_append]; omega
  have hm : (onlyL x.ca truthN ++ onlyL (x.ca && decide (x.path ≠ -1)) (numN x.path)).length * 12 ≤ 2 * 12 := Nat.mul_le_mul_right _ hl
  refine (seqW (L := 12) (by decide) (.inl rfl) (fun n hn => ?_) (by omega)).mono (by omega)
  rcases List.mem_append.1 hn with hn | hn
  ·obtain ⟨_, rfl⟩ := onlyL_mem hn
   exact (leaf_ok (by decide) (by decide) (by decide) (by decide) (by decide) (by rfl)).mono (by decide)
  ·obtain ⟨h, rfl⟩ := onlyL_mem hn
   rw [Bool.and_eq_true] at h
   rw [if_pos h.1, Bool.and_eq_true, Bool.and_eq_true, decide_eq_true_eq, decide_eq_true_eq] at hp
   have hw := putI_length x.path
   have hw2 := width_bd x.path
   refine (leaf_ok (by decide) (by decide) (by decide) (by decide) (by omega) ?_).mono (by omega)
   have e : mayF 2 (putI x.path) = decide ((intF (putI x.path)).2 = 0) := rfl
   rw [e, intF_put' (by unfold I64; omega)]
   rfl
 | 1, _ => by
  refine .inl ⟨rfl, ?_⟩
  have hl := putM_length x.usage
  exact (leaf_ok (by decide) (by decide) (by decide) (by decide) (by omega) (bits_may hu)).mono (by omega)
 | 2, _ => by
  obtain ⟨h1, _⟩ := bounded_parts hb
  have := listed_ways oidN objB (t := 48) (o := 0) (L := 64) (by decide) (.inl rfl) (fun a h => oid_ok (by decide) h) (fun a h => oid_no (by decide) h) h1 (by decide)
  cases e : x.eku.all objB
  ·rw [e] at this; exact .inr ⟨e, this⟩
  ·rw [e] at this; exact .inl ⟨e, okW.mono this (by decide)⟩
 | 3, _ => by
  obtain ⟨_, h1, _⟩ := bounded_parts hb
  have := listed_ways princZ rightP (t := 48) (o := 0) (L := 1200) (by decide) (.inl rfl) (fun a h => by unfold princZ; rw [if_pos h]; exact princ_ok (by decide) h) (fun a h => by unfold princZ; rw [h]; exact zero_no (by decide)) h1 (by decide)
  cases e : x.princs.all rightP
  ·rw [e] at this; exact .inr ⟨e, this⟩
  ·rw [e] at this; exact .inl ⟨e, okW.mono this (by decide)⟩
 | 4, _ => by
  obtain ⟨_, _, h1, h2, _⟩ := bounded_parts hb
  have one : ∀ a, rightN a = true → okW (nameZ a) (1 + 1) 1124 := fun a h => by unfold nameZ; rw [if_pos h]; exact name_ok (by decide) h
  have zero : ∀ a, rightN a = false → noW (nameZ a) (1 + 1) := fun a h => by unfold nameZ; rw [h]; exact zero_no (by decide)
  have p := listed_ways nameZ rightN (t := 160) (o := 1) (L := 1124) (by decide) (.inr (.inl rfl)) one zero h1 (by decide)
  have q := listed_ways nameZ rightN (t := 161) (o := 1) (L := 1124) (by decide) (.inr (.inr rfl)) one zero h2 (by decide)
  have pe : x.permit.all rightN = false → 0 < x.permit.length := fun h => by
   rcases hx : x.permit with _ | ⟨a, l⟩
   ·rw [hx] at h; cases h
   ·simp
  have qe : x.exclude.all rightN = false → 0 < x.exclude.length := fun h => by
   rcases hx : x.exclude with _ | ⟨a, l⟩
   ·rw [hx] at h; cases h
   ·simp
  have two : ∀ (X Y : List Nd), X.length ≤ 1 → Y.length ≤ 1 → (∀ n ∈ X ++ Y, okW n 1 17988) → okW (.mk 48 [] (X ++ Y)) 0 65535 := fun X Y hX hY h => by
   have hl : (X ++ Y).length ≤ 2 := by rw [List.length_append]; omega
   have hm : (X ++ Y).length * 17988 ≤ 2 * 17988 := Nat.mul_le_mul_right _ hl
   have h1 := seqW (L := 17988) (t := 48) (o := 0) (ks := X ++ Y) (by decide) (.inl rfl) h (Nat.le_trans hm (by decide))
   exact h1.mono (Nat.le_trans (Nat.add_le_add_right hm 4) (by decide))
  cases e1 : x.permit.all rightN
  ·rw [e1] at p
   refine .inr ⟨by unfold partX; rw [e1]; rfl, seq_no (by decide) (.inl rfl) ⟨_, List.mem_append.2 (.inl ?_), p⟩⟩
   unfold onlyL; rw [if_pos (decide_eq_true (pe e1))]; exact List.mem_singleton.2 rfl
  ·rw [e1] at p
   cases e2 : x.exclude.all rightN
   ·rw [e2] at q
    refine .inr ⟨by unfold partX; rw [e1, e2]; rfl, seq_no (by decide) (.inl rfl) ⟨_, List.mem_append.2 (.inr ?_), q⟩⟩
    unfold onlyL; rw [if_pos (decide_eq_true (qe e2))]; exact List.mem_singleton.2 rfl
   ·rw [e2] at q
    refine .inl ⟨by unfold partX; rw [e1, e2]; rfl, two _ _ (onlyL_len _ _) (onlyL_len _ _) fun n hn => ?_⟩
    rcases List.mem_append.1 hn with hn | hn
    ·obtain ⟨_, rfl⟩ := onlyL_mem hn; exact p
    ·obtain ⟨_, rfl⟩ := onlyL_mem hn; exact q
 | i + 5, h => absurd h (by omega)
theorem part_there {x : Ex} {i : Nat} (h : kthere x i = false) : partX x i = true := by
 match i, h with
 | 0, _ => rfl
 | 1, _ => rfl
 | 2, h =>
  have h : x.eku = [] := List.eq_nil_of_length_eq_zero (by have := of_decide_eq_false h; omega)
  show x.eku.all objB = true
  rw [h]; rfl
 | 3, h =>
  have h : x.princs = [] := List.eq_nil_of_length_eq_zero (by have := of_decide_eq_false h; omega)
  show x.princs.all rightP = true
  rw [h]; rfl
 | 4, h =>
  have h : (decide (0 < x.permit.length) || decide (0 < x.exclude.length)) = false := h
  rw [Bool.or_eq_false_iff] at h
  have h1 : x.permit = [] := List.eq_nil_of_length_eq_zero (by have := of_decide_eq_false h.1; omega)
  have h2 : x.exclude = [] := List.eq_nil_of_length_eq_zero (by have := of_decide_eq_false h.2; omega)
  show (x.permit.all rightN && x.exclude.all rightN) = true
  rw [h1, h2]; rfl
 | i + 5, _ => rfl
theorem knownL_ways {x : Ex} (hb : boundedX x = true) (hu : 0 ≤ x.usage ∧ x.usage ≤ 65535) : ∀ (is : List Nat), (∀ i ∈ is, i < 5) → knownL x is = if is.all (partX x) = true then some (knownN x is) else none
 | [], _ => rfl
 | i :: is, h => by
  unfold knownL
  rw [knownL_ways hb hu is (fun j hj => h j (by simp [hj])), List.all_cons]
  cases ht : kthere x i
  ·rw [if_neg (by decide), part_there ht, Bool.true_and]
   unfold knownN
   rw [List.filter_cons, ht]
   rfl
  ·rw [if_pos rfl]
   rcases says_ways hb hu i (h i (by simp)) with ⟨h1, b, h2, _⟩ | ⟨h1, e, h2⟩
   ·rw [h1, h2, Bool.true_and]
    simp only
    have hN : knownN x (i :: is) = extF ⟨koid i, kcrit i, b⟩ :: knownN x is := by
     unfold knownN
     rw [List.filter_cons, ht, if_pos rfl, List.map_cons]
     congr 2
     unfold bytesN
     rw [h2]
    rw [hN]
    by_cases ha : is.all (partX x) = true
    ·rw [if_pos ha, if_pos ha]; rfl
    ·rw [if_neg ha, if_neg ha]; rfl
   ·rw [h1, h2, Bool.false_and]
    rfl
theorem putX_right {x : Ex} (hu : 0 ≤ x.usage ∧ x.usage ≤ 65535) : putX x = if rightX x = true then some (nodeX x) else none := by
 unfold putX rightX
 cases hb : boundedX x
 ·rfl
 ·cases ho : oddsX knownOids x.odd
  ·rfl
  ·rw [if_pos (show (true && true) = true from rfl), knownL_ways hb hu ks5 (fun i hi => by unfold ks5 at hi; simp at hi; omega)]
   have e : ks5.all (partX x) = (partX x 2 && partX x 3 && partX x 4) := by
    unfold ks5
    simp only [List.all_cons, List.all_nil]
    show (true && (true && (partX x 2 && (partX x 3 && (partX x 4 && true))))) = _
    simp [Bool.and_assoc]
   rw [e, Bool.true_and, Bool.true_and]
   split <;> rfl
theorem says_right {x : Ex} (hu : 0 ≤ x.usage ∧ x.usage ≤ 65535) (hr : rightX x = true) {i : Nat} (hi : i < 5) : ∃ b, writeF (saysF x i) 0 = .ok b ∧ bytesN (saysF x i) = b ∧ b.length ≤ 65535 := by
 unfold rightX at hr
 simp only [Bool.and_eq_true] at hr
 obtain ⟨⟨hb, _⟩, ⟨h2, h3⟩, h4⟩ := hr
 have hp : partX x i = true := by
  match i, hi with
  | 0, _ => rfl
  | 1, _ => rfl
  | 2, _ => exact h2
  | 3, _ => exact h3
  | 4, _ => exact h4
 rcases says_ways hb hu i hi with ⟨_, b, h, hl⟩ | ⟨h, _⟩
 ·exact ⟨b, h, by unfold bytesN; rw [h], hl⟩
 ·rw [hp] at h; cases h
end Go.Proofs.YtdcpggodlggjjaaGreatDoor.nmc
