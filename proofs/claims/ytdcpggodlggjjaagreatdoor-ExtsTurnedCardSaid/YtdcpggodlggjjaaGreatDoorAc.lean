/- Extensions, read from a node: as the program tells them, and as the document does, step by step: plain facts. Nothing here names a function of the program. -/
import Derived.Test.YtdcpggodlggjjaaGreatDoorAb
import Derived.Test.YtdcpggodlggjjaaGreatDoorYj
namespace Go.Proofs.YtdcpggodlggjjaaGreatDoor.nmc
open Go.RowKit Go.Proofs.YtdcpggodlggjjaaGreatDoor.tlvc Go.Proofs.YtdcpggodlggjjaaGreatDoor.tlvd Go.Proofs.YtdcpggodlggjjaaGreatDoor.ndc Go.Proofs.YtdcpggodlggjjaaGreatDoor.txc Go.Proofs.YtdcpggodlggjjaaGreatDoor.txm Go.Proofs.YtdcpggodlggjjaaGreatDoor.intc Go.Proofs.YtdcpggodlggjjaaGreatDoor.intm
set_option linter.unusedVariables false
set_option linter.unusedSimpArgs false
def oddOfF (n : Nd) : Od := if n.kids.length = 0 then ⟨[], false, []⟩ else ⟨(oidF (kidF n 0).body).1, decide (2 < n.kids.length), (kidF n (n.kids.length - 1)).body⟩
def parsedF (b : List Int) : Nd := match readAllF b with
 | .ok n _ => n
 | .bad _ _ => zeroN
def pathF : List Nd → Int
 | [] => -1
 | k :: _ => (intF k.body).1
def taggedF (n : Nd) (t : Int) : Nd := (n.kids.find? (fun k => decide (k.tag = t))).getD zeroN
def listedF (n : Nd) : List Nd := n.kids.take 16
def getNZ (n : Nd) : List At := (getN n).getD []
def getPZ (n : Nd) : Pr := (getP n).getD ⟨⟨#[]⟩, []⟩
def oidZ (n : Nd) : List Int := (oidF n.body).1
def readX : Nat → Ex → Nd → Ex
 | 0, x, s => { x with hasCA := true, ca := decide (0 < s.kids.length), path := if 0 < s.kids.length then pathF (s.kids.drop 1) else x.path }
 | 1, x, s => { x with usage := (bitsF s.body).1 }
 | 2, x, s => { x with eku := (listedF s).map oidZ }
 | 3, x, s => { x with princs := (listedF s).map getPZ }
 | _, x, s => { x with permit := (listedF (taggedF s 160)).map getNZ, exclude := (listedF (taggedF s 161)).map getNZ }
def ex0 : Ex := ⟨false, false, 0, 0, [], [], [], [], []⟩
def toldL : List Nat → Ex → List Nd → Ex × List Nd
 | [], x, r => (x, r)
 | _ :: _, x, [] => (x, [])
 | i :: is, x, k :: ks => if (oddOfF k).oid = koid i then toldL is (readX i x (parsedF (oddOfF k).body)) ks else toldL is x (k :: ks)
def cutOd (n : Nd) : Od := ⟨(oddOfF n).oid, (oddOfF n).crit, (oddOfF n).body.take 1024⟩
def toldX (n : Nd) : Ex := { (toldL ks5 ex0 (n.kids.take 21)).1 with odd := (toldL ks5 ex0 (n.kids.take 21)).2.map cutOd }
def getX (n : Nd) : Option Ex := if rightX (toldX n) = true ∧ sameN (nodeX (toldX n)) n = true then some (toldX n) else none
theorem ext_kids (o : Od) : (extF o).kids = [oidN o.oid, .mk 4 o.body []] ∧ o.crit = false ∨ (extF o).kids = [oidN o.oid, truthN, .mk 4 o.body []] ∧ o.crit = true := by
 unfold extF onlyL
 cases o.crit
 ·exact .inl ⟨rfl, rfl⟩
 ·exact .inr ⟨rfl, rfl⟩
theorem oidZ_oid {l : List Int} (h : objB l = true) : oidZ (oidN l) = l := by
 unfold oidZ
 rw [oidN_of h]
 show (oidF (encO l)).1 = l
 rw [oidF_enc h]
theorem oddOf_ext {o : Od} (h : objB o.oid = true) : oddOfF (extF o) = o := by
 obtain ⟨oid, crit, body⟩ := o
 have hz := oidZ_oid h
 unfold oidZ at hz
 unfold oddOfF
 rcases ext_kids ⟨oid, crit, body⟩ with ⟨e, hc⟩ | ⟨e, hc⟩
 ·simp only at hc; subst hc
  rw [e, if_neg (by simp)]
  unfold kidF
  rw [e]
  simp only [List.length_cons, List.length_nil, List.getD_cons_zero, List.getD_cons_succ]
  rw [hz]
  rfl
 ·simp only at hc; subst hc
  rw [e, if_neg (by simp)]
  unfold kidF
  rw [e]
  simp only [List.length_cons, List.length_nil, List.getD_cons_zero, List.getD_cons_succ]
  rw [hz]
  rfl
theorem cutOd_ext {o : Od} (h : objB o.oid = true) (hl : o.body.length ≤ 1024) : cutOd (extF o) = o := by
 unfold cutOd
 rw [oddOf_ext h, List.take_of_length_le hl]
theorem parsed_says {x : Ex} (hu : 0 ≤ x.usage ∧ x.usage ≤ 65535) (hr : rightX x = true) {i : Nat} (hi : i < 5) : parsedF (bytesN (saysF x i)) = saysF x i := by
 obtain ⟨b, h1, h2, _⟩ := says_right hu hr hi
 unfold parsedF
 rw [h2, read_all_back h1]
theorem koid_obj {i : Nat} (hi : i < 5) : objB (koid i) = true := by
 match i, hi with
 | 0, _ => rfl
 | 1, _ => rfl
 | 2, _ => rfl
 | 3, _ => rfl
 | 4, _ => rfl
theorem koid_inj {i j : Nat} (hi : i < 5) (hj : j < 5) (h : koid i = koid j) : i = j := by
 have key : ∀ i j : Fin 5, koid i.val = koid j.val → i = j := by decide
 have := key ⟨i, hi⟩ ⟨j, hj⟩ h
 simpa using this
theorem koid_known {i : Nat} (hi : i < 5) : koid i ∈ knownOids := by
 match i, hi with
 | 0, _ => simp [knownOids]
 | 1, _ => simp [knownOids]
 | 2, _ => simp [knownOids]
 | 3, _ => simp [knownOids]
 | 4, _ => simp [knownOids]
/-- What one of the five says, in its place. -/
def putIn : Nat → Ex → Ex → Ex
 | 0, y, x => { y with hasCA := true, ca := x.ca, path := if x.ca = true then x.path else y.path }
 | 1, y, x => { y with usage := x.usage }
 | 2, y, x => { y with eku := x.eku }
 | 3, y, x => { y with princs := x.princs }
 | _, y, x => { y with permit := x.permit, exclude := x.exclude }
theorem right_parts {x : Ex} (hr : rightX x = true) : boundedX x = true ∧ oddsX knownOids x.odd = true ∧ x.eku.all objB = true ∧ x.princs.all rightP = true ∧ x.permit.all rightN = true ∧ x.exclude.all rightN = true := by
 unfold rightX at hr
 simp only [Bool.and_eq_true] at hr
 obtain ⟨⟨hb, ho⟩, ⟨h2, h3⟩, h4⟩ := hr
 have h4 : (x.permit.all rightN && x.exclude.all rightN) = true := h4
 rw [Bool.and_eq_true] at h4
 exact ⟨hb, ho, h2, h3, h4.1, h4.2⟩
theorem map_back {α : Type} {g : α → Nd} {f : Nd → α} {ok : α → Bool} (h : ∀ a, ok a = true → f (g a) = a) {l : List α} (hl : l.all ok = true) : (l.map g).map f = l := by
 rw [List.all_eq_true] at hl
 rw [List.map_map]
 conv => rhs; rw [← List.map_id l]
 exact List.map_congr_left fun a ha => h a (hl a ha)
theorem getNZ_name {l : List At} (h : rightN l = true) : getNZ (nameZ l) = l := by
 unfold getNZ nameZ
 rw [if_pos h, getN_name h]
 rfl
theorem getPZ_princ {p : Pr} (h : rightP p = true) : getPZ (princZ p) = p := by
 unfold getPZ princZ
 rw [if_pos h, getP_princ h]
 rfl
/-- The list under a tag, of what Permit and Exclude say. -/
theorem tagged_says {a b : List Nd} {pa pb : Bool} (ha : pa = false → a = []) (hb : pb = false → b = []) : (taggedF (.mk 48 [] (onlyL pa (.mk 160 [] a) ++ onlyL pb (.mk 161 [] b))) 160).kids = a ∧ (taggedF (.mk 48 [] (onlyL pa (.mk 160 [] a) ++ onlyL pb (.mk 161 [] b))) 161).kids = b := by
 cases pa <;> cases pb
 ·rw [ha rfl, hb rfl]; exact ⟨rfl, rfl⟩
 ·rw [ha rfl]; exact ⟨rfl, rfl⟩
 ·rw [hb rfl]; exact ⟨rfl, rfl⟩
 ·exact ⟨rfl, rfl⟩
theorem path_says {x : Ex} (hb : boundedX x = true) : pathF ((saysF x 0).kids.drop 1) = if x.ca = true then x.path else -1 := by
 obtain ⟨_, _, _, _, _, hp⟩ := bounded_parts hb
 show pathF ((onlyL x.ca truthN ++ onlyL (x.ca && decide (x.path ≠ -1)) (numN x.path)).drop 1) = _
 cases hc : x.ca
 ·rfl
 ·rw [hc, if_pos rfl, Bool.and_eq_true, Bool.and_eq_true, decide_eq_true_eq, decide_eq_true_eq] at hp
  by_cases h : x.path = -1
  ·rw [h]; rfl
  ·have e : (true && decide (x.path ≠ -1)) = true := by rw [Bool.true_and]; exact decide_eq_true h
   rw [e]
   show (intF (putI x.path)).1 = _
   rw [intF_put' (by unfold I64; omega)]
   rfl
theorem says_len0 (x : Ex) : decide (0 < (saysF x 0).kids.length) = x.ca := by
 show decide (0 < (onlyL x.ca truthN ++ onlyL (x.ca && decide (x.path ≠ -1)) (numN x.path)).length) = x.ca
 cases x.ca
 ·rfl
 ·simp [onlyL]
theorem readX_says {x : Ex} (hu : 0 ≤ x.usage ∧ x.usage ≤ 65535) (hr : rightX x = true) (y : Ex) : ∀ (i : Nat), i < 5 → readX i y (saysF x i) = putIn i y x
 | 0, _ => by
  obtain ⟨hb, _⟩ := right_parts hr
  have h1 := says_len0 x
  have h2 := path_says hb
  simp only [readX, putIn]
  rw [h1, h2]
  cases hc : x.ca
  ·rw [if_neg (by rw [hc] at h1; have := of_decide_eq_false h1; omega)]; rfl
  ·rw [if_pos (by rw [hc] at h1; exact of_decide_eq_true h1)]; rfl
 | 1, _ => by
  simp only [readX, putIn]
  show { y with usage := (bitsF (putM x.usage)).1 } = _
  have h2 := putM_length x.usage
  have e : maskF ((putM x.usage).take 3) = x.usage := by rw [List.take_of_length_le (by omega), maskF_putM hu]
  have eb : bitsF (putM x.usage) = (x.usage, 0) := by unfold bitsF; rw [e, if_pos rfl]
  rw [eb]
 | 2, _ => by
  obtain ⟨hb, _, h, _⟩ := right_parts hr
  obtain ⟨hl, _⟩ := bounded_parts hb
  simp only [readX, putIn]
  show { y with eku := ((x.eku.map oidN).take 16).map oidZ } = _
  rw [List.take_of_length_le (by rw [List.length_map]; exact hl), map_back (ok := objB) (fun a h => oidZ_oid h) h]
 | 3, _ => by
  obtain ⟨hb, _, _, h, _⟩ := right_parts hr
  obtain ⟨_, hl, _⟩ := bounded_parts hb
  simp only [readX, putIn]
  show { y with princs := ((x.princs.map princZ).take 16).map getPZ } = _
  rw [List.take_of_length_le (by rw [List.length_map]; exact hl), map_back (ok := rightP) (fun a h => getPZ_princ h) h]
 | 4, _ => by
  obtain ⟨hb, _, _, _, h1, h2⟩ := right_parts hr
  obtain ⟨_, _, l1, l2, _⟩ := bounded_parts hb
  have ht := tagged_says (a := x.permit.map nameZ) (b := x.exclude.map nameZ) (pa := decide (0 < x.permit.length)) (pb := decide (0 < x.exclude.length)) (fun h => by rw [List.eq_nil_of_length_eq_zero (l := x.permit) (by have := of_decide_eq_false h; omega)]; rfl) (fun h => by rw [List.eq_nil_of_length_eq_zero (l := x.exclude) (by have := of_decide_eq_false h; omega)]; rfl)
  simp only [readX, putIn, listedF]
  show { y with permit := ((taggedF (.mk 48 [] (onlyL (decide (0 < x.permit.length)) (.mk 160 [] (x.permit.map nameZ)) ++ onlyL (decide (0 < x.exclude.length)) (.mk 161 [] (x.exclude.map nameZ)))) 160).kids.take 16).map getNZ, exclude := ((taggedF (.mk 48 [] (onlyL (decide (0 < x.permit.length)) (.mk 160 [] (x.permit.map nameZ)) ++ onlyL (decide (0 < x.exclude.length)) (.mk 161 [] (x.exclude.map nameZ)))) 161).kids.take 16).map getNZ } = _
  rw [ht.1, ht.2, List.take_of_length_le (by rw [List.length_map]; exact l1), List.take_of_length_le (by rw [List.length_map]; exact l2), map_back (ok := rightN) (fun a h => getNZ_name h) h1, map_back (ok := rightN) (fun a h => getNZ_name h) h2]
 | i + 5, h => absurd h (by omega)
def stepIn (x y : Ex) (i : Nat) : Ex := if kthere x i = true then putIn i y x else y
theorem knownN_cons_yes {x : Ex} {i : Nat} {is : List Nat} (h : kthere x i = true) : knownN x (i :: is) = extF ⟨koid i, kcrit i, bytesN (saysF x i)⟩ :: knownN x is := by
 unfold knownN
 rw [List.filter_cons, h, if_pos rfl, List.map_cons]
theorem knownN_cons_no {x : Ex} {i : Nat} {is : List Nat} (h : kthere x i = false) : knownN x (i :: is) = knownN x is := by
 unfold knownN
 rw [List.filter_cons, h]
 rfl
theorem knownN_none {x : Ex} : ∀ {is : List Nat}, knownN x is = [] → ∀ y, is.foldl (stepIn x) y = y
 | [], _, _ => rfl
 | i :: is, h, y => by
  cases ht : kthere x i
  ·rw [knownN_cons_no ht] at h
   rw [List.foldl_cons]
   unfold stepIn
   rw [ht, if_neg (by decide)]
   exact knownN_none h y
  ·rw [knownN_cons_yes ht] at h; cases h
theorem toldL_says {x : Ex} (hu : 0 ≤ x.usage ∧ x.usage ≤ 65535) (hr : rightX x = true) {O : List Nd} (hO : ∀ n ∈ O, ∀ i, i < 5 → (oddOfF n).oid ≠ koid i) : ∀ (is : List Nat) (y : Ex), (∀ i ∈ is, i < 5) → is.Nodup → toldL is y (knownN x is ++ O) = (is.foldl (stepIn x) y, O)
 | [], y, _, _ => rfl
 | i :: is, y, h5, hd => by
  have hi : i < 5 := h5 i (by simp)
  rw [List.nodup_cons] at hd
  have ih := fun y => toldL_says hu hr hO is y (fun j hj => h5 j (by simp [hj])) hd.2
  rw [List.foldl_cons]
  cases ht : kthere x i
  ·rw [knownN_cons_no ht]
   have hs : stepIn x y i = y := by unfold stepIn; rw [ht]; rfl
   rw [hs]
   cases hL : knownN x is ++ O with
   | nil =>
    obtain ⟨e1, e2⟩ := List.append_eq_nil_iff.1 hL
    rw [e2, knownN_none e1]
    rfl
   | cons k ks =>
    unfold toldL
    have hne : (oddOfF k).oid ≠ koid i := by
     have hk : k ∈ knownN x is ++ O := by rw [hL]; simp
     rcases List.mem_append.1 hk with hk | hk
     ·unfold knownN at hk
      obtain ⟨j, hj, rfl⟩ := List.mem_map.1 hk
      have hj := (List.mem_filter.1 hj).1
      rw [oddOf_ext (koid_obj (h5 j (by simp [hj])))]
      intro e
      have := koid_inj (h5 j (by simp [hj])) hi e
      subst this
      exact hd.1 hj
     ·exact hO k hk i hi
    rw [if_neg hne, ← hL]
    exact ih y
  ·rw [knownN_cons_yes ht, List.cons_append]
   unfold toldL
   rw [oddOf_ext (koid_obj hi), if_pos rfl]
   simp only
   rw [parsed_says hu hr hi, readX_says hu hr y i hi]
   have hs : stepIn x y i = putIn i y x := by unfold stepIn; rw [ht, if_pos rfl]
   rw [hs]
   exact ih _
theorem oddsX_mem : ∀ {taken : List (List Int)} {l : List Od}, oddsX taken l = true → ∀ o ∈ l, objB o.oid = true ∧ o.body.length ≤ 1024 ∧ o.oid ∉ taken
 | _, [], _, o, ho => by simp at ho
 | taken, a :: l, h, o, ho => by
  unfold oddsX at h
  simp only [Bool.and_eq_true, Bool.not_eq_true', decide_eq_true_eq, decide_eq_false_iff_not] at h
  obtain ⟨⟨⟨h1, h2⟩, h3⟩, h4⟩ := h
  rcases List.mem_cons.1 ho with rfl | ho
  ·exact ⟨h1, h2, h3⟩
  ·obtain ⟨k1, k2, k3⟩ := oddsX_mem h4 o ho
   exact ⟨k1, k2, fun e => k3 (List.mem_append.2 (.inl e))⟩
theorem known_len (x : Ex) (is : List Nat) : (knownN x is).length ≤ is.length := by
 unfold knownN
 rw [List.length_map]
 exact List.length_filter_le _ _
/-- All five, one behind the other. -/
theorem fold_all {x : Ex} (hr : rightX x = true) : ks5.foldl (stepIn x) ex0 = { x with odd := [] } := by
 obtain ⟨hb, _⟩ := right_parts hr
 obtain ⟨_, _, _, _, _, hp⟩ := bounded_parts hb
 obtain ⟨has, ca, path, usage, eku, princs, permit, exclude, odd⟩ := x
 have s0 : stepIn ⟨has, ca, path, usage, eku, princs, permit, exclude, odd⟩ ex0 0 = ⟨has, ca, path, 0, [], [], [], [], []⟩ := by
  unfold stepIn putIn kthere ex0
  simp only at hp ⊢
  cases has <;> cases ca <;> simp_all
 have s1 : stepIn ⟨has, ca, path, usage, eku, princs, permit, exclude, odd⟩ ⟨has, ca, path, 0, [], [], [], [], []⟩ 1 = ⟨has, ca, path, usage, [], [], [], [], []⟩ := by
  unfold stepIn putIn kthere
  simp only
  by_cases h : usage = 0
  ·rw [if_neg (by simp [h]), h]
  ·rw [if_pos (by simp [h])]
 have s2 : stepIn ⟨has, ca, path, usage, eku, princs, permit, exclude, odd⟩ ⟨has, ca, path, usage, [], [], [], [], []⟩ 2 = ⟨has, ca, path, usage, eku, [], [], [], []⟩ := by
  unfold stepIn putIn kthere
  simp only
  cases eku <;> simp
 have s3 : stepIn ⟨has, ca, path, usage, eku, princs, permit, exclude, odd⟩ ⟨has, ca, path, usage, eku, [], [], [], []⟩ 3 = ⟨has, ca, path, usage, eku, princs, [], [], []⟩ := by
  unfold stepIn putIn kthere
  simp only
  cases princs <;> simp
 have s4 : stepIn ⟨has, ca, path, usage, eku, princs, permit, exclude, odd⟩ ⟨has, ca, path, usage, eku, princs, [], [], []⟩ 4 = ⟨has, ca, path, usage, eku, princs, permit, exclude, []⟩ := by
  unfold stepIn putIn kthere
  simp only
  cases permit <;> cases exclude <;> simp
 unfold ks5
 rw [List.foldl_cons, s0, List.foldl_cons, s1, List.foldl_cons, s2, List.foldl_cons, s3, List.foldl_cons, s4, List.foldl_nil]
theorem nodup5 : ks5.Nodup := by unfold ks5; decide
theorem lt5 : ∀ i ∈ ks5, i < 5 := by unfold ks5; decide
theorem toldX_node {x : Ex} (hu : 0 ≤ x.usage ∧ x.usage ≤ 65535) (hr : rightX x = true) : toldX (nodeX x) = x := by
 obtain ⟨hb, ho, _⟩ := right_parts hr
 obtain ⟨_, _, _, _, hl, _⟩ := bounded_parts hb
 have hm := oddsX_mem ho
 have hk : (nodeX x).kids.take 21 = knownN x ks5 ++ x.odd.map extF := by
  show (knownN x ks5 ++ x.odd.map extF).take 21 = _
  refine List.take_of_length_le ?_
  have := known_len x ks5
  have h5 : ks5.length = 5 := rfl
  rw [List.length_append, List.length_map]
  omega
 have ht := toldL_says hu hr (O := x.odd.map extF) (fun n hn i hi => by
  obtain ⟨o, ho, rfl⟩ := List.mem_map.1 hn
  obtain ⟨k1, _, k3⟩ := hm o ho
  rw [oddOf_ext k1]
  intro e
  exact k3 (by rw [e]; exact koid_known hi)) ks5 ex0 lt5 nodup5
 unfold toldX
 rw [hk, ht, fold_all hr]
 show { x with odd := (x.odd.map extF).map cutOd } = x
 have : (x.odd.map extF).map cutOd = x.odd := by
  rw [List.map_map]
  conv => rhs; rw [← List.map_id x.odd]
  exact List.map_congr_left fun o ho => cutOd_ext (hm o ho).1 (hm o ho).2.1
 rw [this]
theorem getX_node {x : Ex} (hu : 0 ≤ x.usage ∧ x.usage ≤ 65535) (hr : rightX x = true) : getX (nodeX x) = some x := by
 unfold getX
 rw [toldX_node hu hr, if_pos ⟨hr, sameN_refl _⟩]
theorem getX_some {n : Nd} {x : Ex} (h : getX n = some x) : rightX x = true ∧ nodeX x = n := by
 unfold getX at h
 split at h
 ·rename_i hc
  cases h
  exact ⟨hc.1, (sameN_iff _ _).1 hc.2⟩
 ·cases h
/-! ### As the document reads -/
def whichF (o : List Int) : Int := if o = koid 0 then 0 else if o = koid 1 then 1 else if o = koid 2 then 2 else if o = koid 3 then 3 else if o = koid 4 then 4 else -1
theorem which_koid {i : Nat} (hi : i < 5) : whichF (koid i) = i := by
 match i, hi with
 | 0, _ => rfl
 | 1, _ => rfl
 | 2, _ => rfl
 | 3, _ => rfl
 | 4, _ => rfl
theorem which_no {o : List Int} (h : o ∉ knownOids) : whichF o = -1 := by
 unfold whichF
 rw [if_neg (fun e => h (by rw [e]; simp [knownOids])), if_neg (fun e => h (by rw [e]; simp [knownOids])), if_neg (fun e => h (by rw [e]; simp [knownOids])), if_neg (fun e => h (by rw [e]; simp [knownOids])), if_neg (fun e => h (by rw [e]; simp [knownOids]))]
end Go.Proofs.YtdcpggodlggjjaaGreatDoor.nmc
