/- Extensions, read from a node: as the program tells them, and as the document does, step by step: plain facts. Nothing here names a function of the program. -/
import Derived.Test.YtdcpggodlggjjaaGreatDoorAb
import Derived.Test.YtdcpggodlggjjaaGreatDoorYj
namespace Go.Proofs.YtdcpggodlggjjaaGreatDoor.nmc
open Go.RowKit Go.Proofs.YtdcpggodlggjjaaGreatDoor.tlvc Go.Proofs.YtdcpggodlggjjaaGreatDoor.tlvd Go.Proofs.YtdcpggodlggjjaaGreatDoor.ndc Go.Proofs.YtdcpggodlggjjaaGreatDoor.txc Go.Proofs.YtdcpggodlggjjaaGreatDoor.txm Go.Proofs.YtdcpggodlggjjaaGreatDoor.intc Go.Proofs.YtdcpggodlggjjaaGreatDoor.intm
set_option linter.unusedVariables false
set_option linter.unusedSimpArgs false
def oddOfF (n : Nd) : Od := if n.kids.length = 0 then ⟨[], false, []⟩ else ⟨(oidF (kidF n 0).body).1, decide (2 < n.kids.length), (kidF n (n.kids.length - 1)).body⟩
def parsedF (b : List Int) : Nd := match readAllF b with
  | .ok n _ => n
  | .bad _ _ => zeroN
def pathF : List Nd → Int
  | [] => -1
  | k :: _ => (intF k.body).1
def taggedF (n : Nd) (t : Int) : Nd := (n.kids.find? (fun k => decide (k.tag = t))).getD zeroN
def listedF (n : Nd) : List Nd := n.kids.take 16
def getNZ (n : Nd) : List At := (getN n).getD []
def getPZ (n : Nd) : Pr := (getP n).getD ⟨⟨#[]⟩, []⟩
def oidZ (n : Nd) : List Int := (oidF n.body).1
def readX : Nat → Ex → Nd → Ex
  | 0, x, s => { x with hasCA := true, ca := decide (0 < s.kids.length), path := if 0 < s.kids.length then pathF (s.kids.drop 1) else x.path }
  | 1, x, s => { x with usage := (bitsF s.body).1 }
  | 2, x, s => { x with eku := (listedF s).map oidZ }
  | 3, x, s => { x with princs := (listedF s).map getPZ }
  | _, x, s => { x with permit := (listedF (taggedF s 160)).map getNZ, exclude := (listedF (taggedF s 161)).map getNZ }
def ex0 : Ex := ⟨false, false, 0, 0, [], [], [], [], []⟩
def toldL : List Nat → Ex → List Nd → Ex × List Nd
  | [], x, r => (x, r)
  | _ :: _, x, [] => (x, [])
  | i :: is, x, k :: ks => if (oddOfF k).oid = koid i then toldL is (readX i x (parsedF (oddOfF k).body)) ks else toldL is x (k :: ks)
def cutOd (n : Nd) : Od := ⟨(oddOfF n).oid, (oddOfF n).crit, (oddOfF n).body.take 1024⟩
def toldX (n : Nd) : Ex := { (toldL ks5 ex0 (n.kids.take 21)).1 with odd := (toldL ks5 ex0 (n.kids.take 21)).2.map cutOd }
def getX (n : Nd) : Option Ex := if rightX (toldX n) = true ∧ sameN (nodeX (toldX n)) n = true then some (toldX n) else none
theorem toldL_len : ∀ (is : List Nat) (x : Ex) (r : List Nd), (toldL is x r).2.length ≤ r.length
  | [], _, _ => Nat.le_refl _
  | _ :: _, _, [] => Nat.le_refl _
  | i :: is, x, k :: ks => by
    unfold toldL
    split
    · have := toldL_len is (readX i x (parsedF (oddOfF k).body)) ks
      simp; omega
    · exact toldL_len is x (k :: ks)
theorem ext_kids (o : Od) : (extF o).kids = [oidN o.oid, .mk 4 o.body []] ∧ o.crit = false ∨ (extF o).kids = [oidN o.oid, truthN, .mk 4 o.body []] ∧ o.crit = true := by
  unfold extF onlyL
  cases o.crit
  · exact .inl ⟨rfl, rfl⟩
  · exact .inr ⟨rfl, rfl⟩
theorem oidZ_oid {l : List Int} (h : objB l = true) : oidZ (oidN l) = l := by
  unfold oidZ
  rw [oidN_of h]
  show (oidF (encO l)).1 = l
  rw [oidF_enc h]
theorem oddOf_ext {o : Od} (h : objB o.oid = true) : oddOfF (extF o) = o := by
  obtain ⟨oid, crit, body⟩ := o
  have hz := oidZ_oid h
  unfold oidZ at hz
  unfold oddOfF
  rcases ext_kids ⟨oid, crit, body⟩ with ⟨e, hc⟩ | ⟨e, hc⟩
  · simp only at hc; subst hc
    rw [e, if_neg (by simp)]
    unfold kidF
    rw [e]
    simp only [List.length_cons, List.length_nil, List.getD_cons_zero, List.getD_cons_succ]
    rw [hz]
    rfl
  · simp only at hc; subst hc
    rw [e, if_neg (by simp)]
    unfold kidF
    rw [e]
    simp only [List.length_cons, List.length_nil, List.getD_cons_zero, List.getD_cons_succ]
    rw [hz]
    rfl
theorem cutOd_ext {o : Od} (h : objB o.oid = true) (hl : o.body.length ≤ 1024) : cutOd (extF o) = o := by
  unfold cutOd
  rw [oddOf_ext h, List.take_of_length_le hl]
theorem parsed_says {x : Ex} (hu : 0 ≤ x.usage ∧ x.usage ≤ 65535) (hr : rightX x = true) {i : Nat} (hi : i < 5) : parsedF (bytesN (saysF x i)) = saysF x i := by
  obtain ⟨b, h1, h2, _⟩ := says_right hu hr hi
  unfold parsedF
  rw [h2, read_all_back h1]
theorem koid_obj {i : Nat} (hi : i < 5) : objB (koid i) = true := by
  match i, hi with
  | 0, _ => rfl
  | 1, _ => rfl
  | 2, _ => rfl
  | 3, _ => rfl
  | 4, _ => rfl
theorem koid_inj {i j : Nat} (hi : i < 5) (hj : j < 5) (h : koid i = koid j) : i = j := by
  have key : ∀ i j : Fin 5, koid i.val = koid j.val → i = j := by decide
  have := key ⟨i, hi⟩ ⟨j, hj⟩ h
  simpa using this
theorem koid_known {i : Nat} (hi : i < 5) : koid i ∈ knownOids := by
  match i, hi with
  | 0, _ => simp [knownOids]
  | 1, _ => simp [knownOids]
  | 2, _ => simp [knownOids]
  | 3, _ => simp [knownOids]
  | 4, _ => simp [knownOids]
/-- What one of the five says, in its place. -/
def putIn : Nat → Ex → Ex → Ex
  | 0, y, x => { y with hasCA := true, ca := x.ca, path := if x.ca = true then x.path else y.path }
  | 1, y, x => { y with usage := x.usage }
  | 2, y, x => { y with eku := x.eku }
  | 3, y, x => { y with princs := x.princs }
  | _, y, x => { y with permit := x.permit, exclude := x.exclude }
theorem right_parts {x : Ex} (hr : rightX x = true) : boundedX x = true ∧ oddsX knownOids x.odd = true ∧ x.eku.all objB = true ∧ x.princs.all rightP = true ∧ x.permit.all rightN = true ∧ x.exclude.all rightN = true := by
  unfold rightX at hr
  simp only [Bool.and_eq_true] at hr
  obtain ⟨⟨hb, ho⟩, ⟨h2, h3⟩, h4⟩ := hr
  have h4 : (x.permit.all rightN && x.exclude.all rightN) = true := h4
  rw [Bool.and_eq_true] at h4
  exact ⟨hb, ho, h2, h3, h4.1, h4.2⟩
theorem map_back {α : Type} {g : α → Nd} {f : Nd → α} {ok : α → Bool} (h : ∀ a, ok a = true → f (g a) = a) {l : List α} (hl : l.all ok = true) : (l.map g).map f = l := by
  rw [List.all_eq_true] at hl
  rw [List.map_map]
  conv => rhs; rw [← List.map_id l]
  exact List.map_congr_left fun a ha => h a (hl a ha)
theorem getNZ_name {l : List At} (h : rightN l = true) : getNZ (nameZ l) = l := by
  unfold getNZ nameZ
  rw [if_pos h, getN_name h]
  rfl
theorem getPZ_princ {p : Pr} (h : rightP p = true) : getPZ (princZ p) = p := by
  unfold getPZ princZ
  rw [if_pos h, getP_princ h]
  rfl
/-- The list under a tag, of what Permit and Exclude say. -/
theorem tagged_says {a b : List Nd} {pa pb : Bool} (ha : pa = false → a = []) (hb : pb = false → b = []) : (taggedF (.mk 48 [] (onlyL pa (.mk 160 [] a) ++ onlyL pb (.mk 161 [] b))) 160).kids = a ∧ (taggedF (.mk 48 [] (onlyL pa (.mk 160 [] a) ++ onlyL pb (.mk 161 [] b))) 161).kids = b := by
  cases pa <;> cases pb
  · rw [ha rfl, hb rfl]; exact ⟨rfl, rfl⟩
  · rw [ha rfl]; exact ⟨rfl, rfl⟩
  · rw [hb rfl]; exact ⟨rfl, rfl⟩
  · exact ⟨rfl, rfl⟩
theorem path_says {x : Ex} (hb : boundedX x = true) : pathF ((saysF x 0).kids.drop 1) = if x.ca = true then x.path else -1 := by
  obtain ⟨_, _, _, _, _, hp⟩ := bounded_parts hb
  show pathF ((onlyL x.ca truthN ++ onlyL (x.ca && decide (x.path ≠ -1)) (numN x.path)).drop 1) = _
  cases hc : x.ca
  · rfl
  · rw [hc, if_pos rfl, Bool.and_eq_true, Bool.and_eq_true, decide_eq_true_eq, decide_eq_true_eq] at hp
    by_cases h : x.path = -1
    · rw [h]; rfl
    · have e : (true && decide (x.path ≠ -1)) = true := by rw [Bool.true_and]; exact decide_eq_true h
      rw [e]
      show (intF (putI x.path)).1 = _
      rw [intF_put' (by unfold I64; omega)]
      rfl
theorem says_len0 (x : Ex) : decide (0 < (saysF x 0).kids.length) = x.ca := by
  show decide (0 < (onlyL x.ca truthN ++ onlyL (x.ca && decide (x.path ≠ -1)) (numN x.path)).length) = x.ca
  cases x.ca
  · rfl
  · simp [onlyL]
theorem readX_says {x : Ex} (hu : 0 ≤ x.usage ∧ x.usage ≤ 65535) (hr : rightX x = true) (y : Ex) : ∀ (i : Nat), i < 5 → readX i y (saysF x i) = putIn i y x
  | 0, _ => by
    obtain ⟨hb, _⟩ := right_parts hr
    have h1 := says_len0 x
    have h2 := path_says hb
    simp only [readX, putIn]
    rw [h1, h2]
    cases hc : x.ca
    · rw [if_neg (by rw [hc] at h1; have := of_decide_eq_false h1; omega)]; rfl
    · rw [if_pos (by rw [hc] at h1; exact of_decide_eq_true h1)]; rfl
  | 1, _ => by
    simp only [readX, putIn]
    show { y with usage := (bitsF (putM x.usage)).1 } = _
    have h2 := putM_length x.usage
    have e : maskF ((putM x.usage).take 3) = x.usage := by rw [List.take_of_length_le (by omega), maskF_putM hu]
    have eb : bitsF (putM x.usage) = (x.usage, 0) := by unfold bitsF; rw [e, if_pos rfl]
    rw [eb]
  | 2, _ => by
    obtain ⟨hb, _, h, _⟩ := right_parts hr
    obtain ⟨hl, _⟩ := bounded_parts hb
    simp only [readX, putIn]
    show { y with eku := ((x.eku.map oidN).take 16).map oidZ } = _
    rw [List.take_of_length_le (by rw [List.length_map]; exact hl), map_back (ok := objB) (fun a h => oidZ_oid h) h]
  | 3, _ => by
    obtain ⟨hb, _, _, h, _⟩ := right_parts hr
    obtain ⟨_, hl, _⟩ := bounded_parts hb
    simp only [readX, putIn]
    show { y with princs := ((x.princs.map princZ).take 16).map getPZ } = _
    rw [List.take_of_length_le (by rw [List.length_map]; exact hl), map_back (ok := rightP) (fun a h => getPZ_princ h) h]
  | 4, _ => by
    obtain ⟨hb, _, _, _, h1, h2⟩ := right_parts hr
    obtain ⟨_, _, l1, l2, _⟩ := bounded_parts hb
    have ht := tagged_says (a := x.permit.map nameZ) (b := x.exclude.map nameZ) (pa := decide (0 < x.permit.length)) (pb := decide (0 < x.exclude.length)) (fun h => by rw [List.eq_nil_of_length_eq_zero (l := x.permit) (by have := of_decide_eq_false h; omega)]; rfl) (fun h => by rw [List.eq_nil_of_length_eq_zero (l := x.exclude) (by have := of_decide_eq_false h; omega)]; rfl)
    simp only [readX, putIn, listedF]
    show { y with permit := ((taggedF (.mk 48 [] (onlyL (decide (0 < x.permit.length)) (.mk 160 [] (x.permit.map nameZ)) ++ onlyL (decide (0 < x.exclude.length)) (.mk 161 [] (x.exclude.map nameZ)))) 160).kids.take 16).map getNZ, exclude := ((taggedF (.mk 48 [] (onlyL (decide (0 < x.permit.length)) (.mk 160 [] (x.permit.map nameZ)) ++ onlyL (decide (0 < x.exclude.length)) (.mk 161 [] (x.exclude.map nameZ)))) 161).kids.take 16).map getNZ } = _
    rw [ht.1, ht.2, List.take_of_length_le (by rw [List.length_map]; exact l1), List.take_of_length_le (by rw [List.length_map]; exact l2), map_back (ok := rightN) (fun a h => getNZ_name h) h1, map_back (ok := rightN) (fun a h => getNZ_name h) h2]
  | i + 5, h => absurd h (by omega)
def stepIn (x y : Ex) (i : Nat) : Ex := if kthere x i = true then putIn i y x else y
theorem knownN_cons_yes {x : Ex} {i : Nat} {is : List Nat} (h : kthere x i = true) : knownN x (i :: is) = extF ⟨koid i, kcrit i, bytesN (saysF x i)⟩ :: knownN x is := by
  unfold knownN
  rw [List.filter_cons, h, if_pos rfl, List.map_cons]
theorem knownN_cons_no {x : Ex} {i : Nat} {is : List Nat} (h : kthere x i = false) : knownN x (i :: is) = knownN x is := by
  unfold knownN
  rw [List.filter_cons, h]
  rfl
theorem knownN_none {x : Ex} : ∀ {is : List Nat}, knownN x is = [] → ∀ y, is.foldl (stepIn x) y = y
  | [], _, _ => rfl
  | i :: is, h, y => by
    cases ht : kthere x i
    · rw [knownN_cons_no ht] at h
      rw [List.foldl_cons]
      unfold stepIn
      rw [ht, if_neg (by decide)]
      exact knownN_none h y
    · rw [knownN_cons_yes ht] at h; cases h
theorem toldL_says {x : Ex} (hu : 0 ≤ x.usage ∧ x.usage ≤ 65535) (hr : rightX x = true) {O : List Nd} (hO : ∀ n ∈ O, ∀ i, i < 5 → (oddOfF n).oid ≠ koid i) : ∀ (is : List Nat) (y : Ex), (∀ i ∈ is, i < 5) → is.Nodup → toldL is y (knownN x is ++ O) = (is.foldl (stepIn x) y, O)
  | [], y, _, _ => rfl
  | i :: is, y, h5, hd => by
    have hi : i < 5 := h5 i (by simp)
    rw [List.nodup_cons] at hd
    have ih := fun y => toldL_says hu hr hO is y (fun j hj => h5 j (by simp [hj])) hd.2
    rw [List.foldl_cons]
    cases ht : kthere x i
    · rw [knownN_cons_no ht]
      have hs : stepIn x y i = y := by unfold stepIn; rw [ht]; rfl
      rw [hs]
      cases hL : knownN x is ++ O with
      | nil =>
        obtain ⟨e1, e2⟩ := List.append_eq_nil_iff.1 hL
        rw [e2, knownN_none e1]
        rfl
      | cons k ks =>
        unfold toldL
        have hne : (oddOfF k).oid ≠ koid i := by
          have hk : k ∈ knownN x is ++ O := by rw [hL]; simp
          rcases List.mem_append.1 hk with hk | hk
          · unfold knownN at hk
            obtain ⟨j, hj, rfl⟩ := List.mem_map.1 hk
            have hj := (List.mem_filter.1 hj).1
            rw [oddOf_ext (koid_obj (h5 j (by simp [hj])))]
            intro e
            have := koid_inj (h5 j (by simp [hj])) hi e
            subst this
            exact hd.1 hj
          · exact hO k hk i hi
        rw [if_neg hne, ← hL]
        exact ih y
    · rw [knownN_cons_yes ht, List.cons_append]
      unfold toldL
      rw [oddOf_ext (koid_obj hi), if_pos rfl]
      simp only
      rw [parsed_says hu hr hi, readX_says hu hr y i hi]
      have hs : stepIn x y i = putIn i y x := by unfold stepIn; rw [ht, if_pos rfl]
      rw [hs]
      exact ih _
theorem oddsX_mem : ∀ {taken : List (List Int)} {l : List Od}, oddsX taken l = true → ∀ o ∈ l, objB o.oid = true ∧ o.body.length ≤ 1024 ∧ o.oid ∉ taken
  | _, [], _, o, ho => by simp at ho
  | taken, a :: l, h, o, ho => by
    unfold oddsX at h
    simp only [Bool.and_eq_true, Bool.not_eq_true', decide_eq_true_eq, decide_eq_false_iff_not] at h
    obtain ⟨⟨⟨h1, h2⟩, h3⟩, h4⟩ := h
    rcases List.mem_cons.1 ho with rfl | ho
    · exact ⟨h1, h2, h3⟩
    · obtain ⟨k1, k2, k3⟩ := oddsX_mem h4 o ho
      exact ⟨k1, k2, fun e => k3 (List.mem_append.2 (.inl e))⟩
theorem known_len (x : Ex) (is : List Nat) : (knownN x is).length ≤ is.length := by
  unfold knownN
  rw [List.length_map]
  exact List.length_filter_le _ _
/-- All five, one behind the other. -/
theorem fold_all {x : Ex} (hr : rightX x = true) : ks5.foldl (stepIn x) ex0 = { x with odd := [] } := by
  obtain ⟨hb, _⟩ := right_parts hr
  obtain ⟨_, _, _, _, _, hp⟩ := bounded_parts hb
  obtain ⟨has, ca, path, usage, eku, princs, permit, exclude, odd⟩ := x
  have s0 : stepIn ⟨has, ca, path, usage, eku, princs, permit, exclude, odd⟩ ex0 0 = ⟨has, ca, path, 0, [], [], [], [], []⟩ := by
    unfold stepIn putIn kthere ex0
    simp only at hp ⊢
    cases has <;> cases ca <;> simp_all
  have s1 : stepIn ⟨has, ca, path, usage, eku, princs, permit, exclude, odd⟩ ⟨has, ca, path, 0, [], [], [], [], []⟩ 1 = ⟨has, ca, path, usage, [], [], [], [], []⟩ := by
    unfold stepIn putIn kthere
    simp only
    by_cases h : usage = 0
    · rw [if_neg (by simp [h]), h]
    · rw [if_pos (by simp [h])]
  have s2 : stepIn ⟨has, ca, path, usage, eku, princs, permit, exclude, odd⟩ ⟨has, ca, path, usage, [], [], [], [], []⟩ 2 = ⟨has, ca, path, usage, eku, [], [], [], []⟩ := by
    unfold stepIn putIn kthere
    simp only
    cases eku <;> simp
  have s3 : stepIn ⟨has, ca, path, usage, eku, princs, permit, exclude, odd⟩ ⟨has, ca, path, usage, eku, [], [], [], []⟩ 3 = ⟨has, ca, path, usage, eku, princs, [], [], []⟩ := by
    unfold stepIn putIn kthere
    simp only
    cases princs <;> simp
  have s4 : stepIn ⟨has, ca, path, usage, eku, princs, permit, exclude, odd⟩ ⟨has, ca, path, usage, eku, princs, [], [], []⟩ 4 = ⟨has, ca, path, usage, eku, princs, permit, exclude, []⟩ := by
    unfold stepIn putIn kthere
    simp only
    cases permit <;> cases exclude <;> simp
  unfold ks5
  rw [List.foldl_cons, s0, List.foldl_cons, s1, List.foldl_cons, s2, List.foldl_cons, s3, List.foldl_cons, s4, List.foldl_nil]
theorem nodup5 : ks5.Nodup := by unfold ks5; decide
theorem lt5 : ∀ i ∈ ks5, i < 5 := by unfold ks5; decide
theorem toldX_node {x : Ex} (hu : 0 ≤ x.usage ∧ x.usage ≤ 65535) (hr : rightX x = true) : toldX (nodeX x) = x := by
  obtain ⟨hb, ho, _⟩ := right_parts hr
  obtain ⟨_, _, _, _, hl, _⟩ := bounded_parts hb
  have hm := oddsX_mem ho
  have hk : (nodeX x).kids.take 21 = knownN x ks5 ++ x.odd.map extF := by
    show (knownN x ks5 ++ x.odd.map extF).take 21 = _
    refine List.take_of_length_le ?_
    have := known_len x ks5
    have h5 : ks5.length = 5 := rfl
    rw [List.length_append, List.length_map]
    omega
  have ht := toldL_says hu hr (O := x.odd.map extF) (fun n hn i hi => by
    obtain ⟨o, ho, rfl⟩ := List.mem_map.1 hn
    obtain ⟨k1, _, k3⟩ := hm o ho
    rw [oddOf_ext k1]
    intro e
    exact k3 (by rw [e]; exact koid_known hi)) ks5 ex0 lt5 nodup5
  unfold toldX
  rw [hk, ht, fold_all hr]
  show { x with odd := (x.odd.map extF).map cutOd } = x
  have : (x.odd.map extF).map cutOd = x.odd := by
    rw [List.map_map]
    conv => rhs; rw [← List.map_id x.odd]
    exact List.map_congr_left fun o ho => cutOd_ext (hm o ho).1 (hm o ho).2.1
  rw [this]
theorem getX_node {x : Ex} (hu : 0 ≤ x.usage ∧ x.usage ≤ 65535) (hr : rightX x = true) : getX (nodeX x) = some x := by
  unfold getX
  rw [toldX_node hu hr, if_pos ⟨hr, sameN_refl _⟩]
theorem getX_some {n : Nd} {x : Ex} (h : getX n = some x) : rightX x = true ∧ nodeX x = n := by
  unfold getX at h
  split at h
  · rename_i hc
    cases h
    exact ⟨hc.1, (sameN_iff _ _).1 hc.2⟩
  · cases h
/-! ### As the document reads -/
def whichF (o : List Int) : Int := if o = koid 0 then 0 else if o = koid 1 then 1 else if o = koid 2 then 2 else if o = koid 3 then 3 else if o = koid 4 then 4 else -1
theorem which_koid {i : Nat} (hi : i < 5) : whichF (koid i) = i := by
  match i, hi with
  | 0, _ => rfl
  | 1, _ => rfl
  | 2, _ => rfl
  | 3, _ => rfl
  | 4, _ => rfl
theorem which_no {o : List Int} (h : o ∉ knownOids) : whichF o = -1 := by
  unfold whichF
  rw [if_neg (fun e => h (by rw [e]; simp [knownOids])), if_neg (fun e => h (by rw [e]; simp [knownOids])), if_neg (fun e => h (by rw [e]; simp [knownOids])), if_neg (fun e => h (by rw [e]; simp [knownOids])), if_neg (fun e => h (by rw [e]; simp [knownOids]))]
theorem which_range (o : List Int) : -1 ≤ whichF o ∧ whichF o ≤ 4 := by
  unfold whichF
  repeat' split
  all_goals omega
theorem which_known {o : List Int} : whichF o < 0 ↔ o ∉ knownOids := by
  constructor
  · intro h hm
    simp only [knownOids, List.mem_cons, List.mem_nil_iff, or_false] at hm
    rcases hm with rfl | rfl | rfl | rfl | rfl
    · exact absurd h (by decide)
    · exact absurd h (by decide)
    · exact absurd h (by decide)
    · exact absurd h (by decide)
    · exact absurd h (by decide)
  · intro h
    rw [which_no h]
    decide
def intOK (n : Nd) : Bool := decide ((intF n.body).2 = 0) && plainB n 2
/-- What all tell, if each tells something. -/
def allG {α : Type} (g : Nd → Option α) : List Nd → Option (List α)
  | [] => some []
  | k :: ks => match g k with
    | none => none
    | some a => (allG g ks).map (a :: ·)
theorem allG_map {α : Type} {g : Nd → Option α} {f : α → Nd} {ok : α → Bool} (h : ∀ a, ok a = true → g (f a) = some a) : ∀ {l : List α}, l.all ok = true → allG g (l.map f) = some l
  | [], _ => rfl
  | a :: l, hl => by
    rw [List.all_cons, Bool.and_eq_true] at hl
    rw [List.map_cons]
    unfold allG
    rw [h a hl.1, allG_map h hl.2]
    rfl
def spaceF : Ex → List Nd → Option Ex
  | x, [] => some x
  | x, k :: ks => match allG getN k.kids with
    | none => none
    | some l => spaceF (if k.tag = 160 then { x with permit := x.permit ++ l } else { x with exclude := x.exclude ++ l }) ks
def caF (x : Ex) (n : Nd) : Ex := { x with hasCA := true, ca := decide (0 < n.kids.length), path := if 0 < n.kids.length then -1 else x.path }
def saysN : Nat → Ex → Nd → Option Ex
  | 0, x, n => if 1 < n.kids.length then (if intOK (kidF n 1) = true then some { caF x n with path := (intF (kidF n 1).body).1 } else none) else some (caF x n)
  | 1, x, n => if (bitsF n.body).2 = 0 then some { x with usage := (bitsF n.body).1 } else none
  | 2, x, n => if n.kids.all oidOK = true then some { x with eku := x.eku ++ n.kids.map oidZ } else none
  | 3, x, n => (allG getP n.kids).map fun l => { x with princs := x.princs ++ l }
  | _, x, n => spaceF x n.kids
def saysR (i : Nat) (x : Ex) (b : List Int) : Option Ex := match readAllF b with
  | .bad _ _ => none
  | .ok n _ => saysN i x n
def lastF (k : Nd) : Nd := kidF k (k.kids.length - 1)
def rgL : Ex → List Nd → Option Ex
  | x, [] => some x
  | x, k :: ks =>
    if k.kids.length < 2 then none
    else if (oidOK (kidF k 0) && plainB (lastF k) 4) = true then
      if whichF (oidZ (kidF k 0)) < 0 then rgL { x with odd := x.odd ++ [⟨oidZ (kidF k 0), decide (k.kids.length = 3), (lastF k).body⟩] } ks
      else match saysR (whichF (oidZ (kidF k 0))).toNat x (lastF k).body with
        | none => none
        | some y => rgL y ks
    else none
def rgX (n : Nd) : Option Ex := match rgL ex0 n.kids with
  | none => none
  | some x => if rightX x = true ∧ sameN (nodeX x) n = true then some x else none
theorem oidOK_oid {l : List Int} (h : objB l = true) : oidOK (oidN l) = true := by
  unfold oidOK
  rw [oidN_of h]
  show (decide ((oidF (encO l)).2 = 0) && _) = true
  rw [oidF_enc h]
  rfl
theorem ext_read {o : Od} (h : objB o.oid = true) : ¬ (extF o).kids.length < 2 ∧ (oidOK (kidF (extF o) 0) && plainB (lastF (extF o)) 4) = true ∧ oidZ (kidF (extF o) 0) = o.oid ∧ decide ((extF o).kids.length = 3) = o.crit ∧ (lastF (extF o)).body = o.body := by
  have h1 := oidOK_oid h
  have h2 := oidZ_oid h
  unfold lastF kidF
  rcases ext_kids o with ⟨e, hc⟩ | ⟨e, hc⟩
  · rw [e, hc]
    simp only [List.length_cons, List.length_nil, List.getD_cons_zero, List.getD_cons_succ]
    exact ⟨by omega, by rw [h1]; rfl, h2, rfl, rfl⟩
  · rw [e, hc]
    simp only [List.length_cons, List.length_nil, List.getD_cons_zero, List.getD_cons_succ]
    exact ⟨by omega, by rw [h1]; rfl, h2, rfl, rfl⟩
theorem rgL_odds : ∀ (l : List Od) (x : Ex), (∀ o ∈ l, objB o.oid = true ∧ o.oid ∉ knownOids) → rgL x (l.map extF) = some { x with odd := x.odd ++ l }
  | [], x, _ => by rw [List.map_nil, List.append_nil]; rfl
  | o :: l, x, h => by
    obtain ⟨h1, h2⟩ := h o (by simp)
    obtain ⟨k1, k2, k3, k4, k5⟩ := ext_read h1
    rw [List.map_cons]
    unfold rgL
    rw [if_neg k1, if_pos k2, k3, which_no h2, if_pos (by decide), k4, k5, rgL_odds l _ (fun p hp => h p (by simp [hp]))]
    simp only [List.append_assoc, List.cons_append, List.nil_append]
/-- What the document adds of one of the five. -/
def addIn : Nat → Ex → Ex → Ex
  | 0, y, x => { y with hasCA := true, ca := x.ca, path := if x.ca = true then x.path else y.path }
  | 1, y, x => { y with usage := x.usage }
  | 2, y, x => { y with eku := y.eku ++ x.eku }
  | 3, y, x => { y with princs := y.princs ++ x.princs }
  | _, y, x => { y with permit := y.permit ++ x.permit, exclude := y.exclude ++ x.exclude }
theorem saysN_says {x : Ex} (hu : 0 ≤ x.usage ∧ x.usage ≤ 65535) (hr : rightX x = true) (y : Ex) : ∀ (i : Nat), i < 5 → saysN i y (saysF x i) = some (addIn i y x)
  | 0, _ => by
    obtain ⟨hb, _⟩ := right_parts hr
    obtain ⟨_, _, _, _, _, hp⟩ := bounded_parts hb
    have hk : (saysF x 0).kids = onlyL x.ca truthN ++ onlyL (x.ca && decide (x.path ≠ -1)) (numN x.path) := rfl
    simp only [saysN, addIn, caF]
    cases hc : x.ca
    · rw [hc] at hk
      have hk : (saysF x 0).kids = [] := hk
      rw [hk]
      rfl
    · rw [hc] at hk
      rw [hc, if_pos rfl, Bool.and_eq_true, Bool.and_eq_true, decide_eq_true_eq, decide_eq_true_eq] at hp
      by_cases h : x.path = -1
      · rw [h] at hk
        have hk : (saysF x 0).kids = [truthN] := hk
        rw [hk, h]
        rfl
      · have e : (true && decide (x.path ≠ -1)) = true := by rw [Bool.true_and]; exact decide_eq_true h
        rw [e] at hk
        have hk : (saysF x 0).kids = [truthN, numN x.path] := hk
        have hf : intF (putI x.path) = (x.path, 0) := intF_put' (by unfold I64; omega)
        have hok : intOK (numN x.path) = true := by
          unfold intOK
          show (decide ((intF (putI x.path)).2 = 0) && _) = true
          rw [hf]
          rfl
        unfold kidF
        rw [hk]
        simp only [List.length_cons, List.length_nil, List.getD_cons_zero, List.getD_cons_succ]
        rw [hok, if_pos (by decide), if_pos rfl, if_pos trivial]
        show some { y with hasCA := true, ca := true, path := (intF (putI x.path)).1 } = _
        rw [hf]
  | 1, _ => by
    simp only [saysN, addIn]
    have h2 := putM_length x.usage
    have e : maskF ((putM x.usage).take 3) = x.usage := by rw [List.take_of_length_le (by omega), maskF_putM hu]
    have eb : bitsF (saysF x 1).body = (x.usage, 0) := by show bitsF (putM x.usage) = _; unfold bitsF; rw [e, if_pos rfl]
    rw [eb, if_pos rfl]
  | 2, _ => by
    obtain ⟨_, _, h, _⟩ := right_parts hr
    simp only [saysN, addIn]
    have hk : (saysF x 2).kids = x.eku.map oidN := rfl
    have ha : (x.eku.map oidN).all oidOK = true := by
      rw [List.all_eq_true] at h ⊢
      intro n hn
      obtain ⟨a, ha, rfl⟩ := List.mem_map.1 hn
      exact oidOK_oid (h a ha)
    rw [hk, ha, if_pos rfl, map_back (ok := objB) (fun a h => oidZ_oid h) h]
  | 3, _ => by
    obtain ⟨_, _, _, h, _⟩ := right_parts hr
    simp only [saysN, addIn]
    have hk : (saysF x 3).kids = x.princs.map princZ := rfl
    rw [hk, allG_map (ok := rightP) (fun a h => by unfold princZ; rw [if_pos h]; exact getP_princ h) h]
    rfl
  | 4, _ => by
    obtain ⟨_, _, _, _, h1, h2⟩ := right_parts hr
    have e1 : allG getN (x.permit.map nameZ) = some x.permit := allG_map (ok := rightN) (fun a h => by unfold nameZ; rw [if_pos h]; exact getN_name h) h1
    have e2 : allG getN (x.exclude.map nameZ) = some x.exclude := allG_map (ok := rightN) (fun a h => by unfold nameZ; rw [if_pos h]; exact getN_name h) h2
    simp only [saysN, addIn]
    have hk : (saysF x 4).kids = onlyL (decide (0 < x.permit.length)) (.mk 160 [] (x.permit.map nameZ)) ++ onlyL (decide (0 < x.exclude.length)) (.mk 161 [] (x.exclude.map nameZ)) := rfl
    rw [hk]
    have f1 : ∀ (z : Ex) (r : List Nd), spaceF z (onlyL (decide (0 < x.permit.length)) (.mk 160 [] (x.permit.map nameZ)) ++ r) = spaceF { z with permit := z.permit ++ x.permit } r := fun z r => by
      by_cases h : 0 < x.permit.length
      · rw [decide_eq_true h]
        show spaceF z (Nd.mk 160 [] (x.permit.map nameZ) :: r) = _
        conv => lhs; unfold spaceF
        simp only [Nd.kids, Nd.tag]
        rw [e1]
        simp only [if_true]
      · rw [decide_eq_false h, List.eq_nil_of_length_eq_zero (l := x.permit) (by omega), List.append_nil]
        rfl
    have f2 : ∀ (z : Ex), spaceF z (onlyL (decide (0 < x.exclude.length)) (.mk 161 [] (x.exclude.map nameZ))) = some { z with exclude := z.exclude ++ x.exclude } := fun z => by
      by_cases h : 0 < x.exclude.length
      · rw [decide_eq_true h]
        show spaceF z [Nd.mk 161 [] (x.exclude.map nameZ)] = _
        unfold spaceF
        simp only [Nd.kids, Nd.tag]
        rw [e2]
        rfl
      · rw [decide_eq_false h, List.eq_nil_of_length_eq_zero (l := x.exclude) (by omega), List.append_nil]
        rfl
    rw [f1, f2]
  | i + 5, h => absurd h (by omega)
theorem says_back {x : Ex} (hu : 0 ≤ x.usage ∧ x.usage ≤ 65535) (hr : rightX x = true) (y : Ex) {i : Nat} (hi : i < 5) : saysR i y (bytesN (saysF x i)) = some (addIn i y x) := by
  obtain ⟨b, h1, h2, _⟩ := says_right hu hr hi
  unfold saysR
  rw [h2, read_all_back h1]
  exact saysN_says hu hr y i hi
def stepAdd (x y : Ex) (i : Nat) : Ex := if kthere x i = true then addIn i y x else y
theorem rgL_known {x : Ex} (hu : 0 ≤ x.usage ∧ x.usage ≤ 65535) (hr : rightX x = true) (R : List Nd) : ∀ (is : List Nat) (y : Ex), (∀ i ∈ is, i < 5) → rgL y (knownN x is ++ R) = rgL (is.foldl (stepAdd x) y) R
  | [], y, _ => rfl
  | i :: is, y, h5 => by
    have hi : i < 5 := h5 i (by simp)
    have ih := fun y => rgL_known hu hr R is y (fun j hj => h5 j (by simp [hj]))
    rw [List.foldl_cons]
    cases ht : kthere x i
    · rw [knownN_cons_no ht, ih]
      unfold stepAdd
      rw [ht]
      rfl
    · rw [knownN_cons_yes ht, List.cons_append]
      obtain ⟨k1, k2, k3, k4, k5⟩ := ext_read (o := ⟨koid i, kcrit i, bytesN (saysF x i)⟩) (koid_obj hi)
      conv => lhs; unfold rgL
      rw [if_neg k1, if_pos k2, k3, which_koid hi, if_neg (by omega), k5, Int.toNat_natCast, says_back hu hr y hi]
      simp only
      rw [ih]
      have : stepAdd x y i = addIn i y x := by unfold stepAdd; rw [ht, if_pos rfl]
      rw [this]
theorem fold_add {x : Ex} (hr : rightX x = true) : ks5.foldl (stepAdd x) ex0 = { x with odd := [] } := by
  obtain ⟨hb, _⟩ := right_parts hr
  obtain ⟨_, _, _, _, _, hp⟩ := bounded_parts hb
  obtain ⟨has, ca, path, usage, eku, princs, permit, exclude, odd⟩ := x
  have s0 : stepAdd ⟨has, ca, path, usage, eku, princs, permit, exclude, odd⟩ ex0 0 = ⟨has, ca, path, 0, [], [], [], [], []⟩ := by
    unfold stepAdd addIn kthere ex0
    simp only at hp ⊢
    cases has <;> cases ca <;> simp_all
  have s1 : stepAdd ⟨has, ca, path, usage, eku, princs, permit, exclude, odd⟩ ⟨has, ca, path, 0, [], [], [], [], []⟩ 1 = ⟨has, ca, path, usage, [], [], [], [], []⟩ := by
    unfold stepAdd addIn kthere
    simp only
    by_cases h : usage = 0
    · rw [if_neg (by simp [h]), h]
    · rw [if_pos (by simp [h])]
  have s2 : stepAdd ⟨has, ca, path, usage, eku, princs, permit, exclude, odd⟩ ⟨has, ca, path, usage, [], [], [], [], []⟩ 2 = ⟨has, ca, path, usage, eku, [], [], [], []⟩ := by
    unfold stepAdd addIn kthere
    simp only
    cases eku <;> simp
  have s3 : stepAdd ⟨has, ca, path, usage, eku, princs, permit, exclude, odd⟩ ⟨has, ca, path, usage, eku, [], [], [], []⟩ 3 = ⟨has, ca, path, usage, eku, princs, [], [], []⟩ := by
    unfold stepAdd addIn kthere
    simp only
    cases princs <;> simp
  have s4 : stepAdd ⟨has, ca, path, usage, eku, princs, permit, exclude, odd⟩ ⟨has, ca, path, usage, eku, princs, [], [], []⟩ 4 = ⟨has, ca, path, usage, eku, princs, permit, exclude, []⟩ := by
    unfold stepAdd addIn kthere
    simp only
    cases permit <;> cases exclude <;> simp
  unfold ks5
  rw [List.foldl_cons, s0, List.foldl_cons, s1, List.foldl_cons, s2, List.foldl_cons, s3, List.foldl_cons, s4, List.foldl_nil]
theorem rgX_node {x : Ex} (hu : 0 ≤ x.usage ∧ x.usage ≤ 65535) (hr : rightX x = true) : rgX (nodeX x) = some x := by
  obtain ⟨hb, ho, _⟩ := right_parts hr
  have hm := oddsX_mem ho
  have hL : rgL ex0 (nodeX x).kids = some x := by
    show rgL ex0 (knownN x ks5 ++ x.odd.map extF) = some x
    rw [rgL_known hu hr _ ks5 ex0 lt5, fold_add hr, rgL_odds x.odd _ (fun o ho => ⟨(hm o ho).1, (hm o ho).2.2⟩)]
    simp only [List.nil_append]
  unfold rgX
  rw [hL]
  simp only
  rw [if_pos ⟨hr, sameN_refl _⟩]
theorem getX_rg {n : Nd} (hu : ∀ x, getX n = some x ∨ rgX n = some x → 0 ≤ x.usage ∧ x.usage ≤ 65535) : getX n = rgX n := by
  cases hr : rgX n with
  | some y =>
    have hu := hu y (.inr hr)
    unfold rgX at hr
    cases hl : rgL ex0 n.kids with
    | none => rw [hl] at hr; cases hr
    | some x =>
      rw [hl] at hr
      simp only at hr
      split at hr
      · rename_i hc
        cases hr
        have := (sameN_iff _ _).1 hc.2
        rw [← this]
        exact getX_node hu hc.1
      · cases hr
  | none =>
    cases hg : getX n with
    | none => rfl
    | some x =>
      have hu := hu x (.inl hg)
      obtain ⟨h1, h2⟩ := getX_some hg
      rw [← h2, rgX_node hu h1] at hr
      cases hr
end Go.Proofs.YtdcpggodlggjjaaGreatDoor.nmc
