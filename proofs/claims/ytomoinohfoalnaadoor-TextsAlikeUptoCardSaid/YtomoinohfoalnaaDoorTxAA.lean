/- Texts prepared by the document's own way: the same as by the program's; and the conversions between texts and runes. -/
import Derived.Test.YtomoinohfoalnaaDoorKitD
import Derived.Test.YtomoinohfoalnaaDoorTxQ
namespace Go.Proofs.YtomoinohfoalnaaDoor.txm
open Go.Proofs.YtomoinohfoalnaaDoor.tlvc
set_option linter.unusedVariables false
def f1 (r : Int) : List Int := if kindF r = 1 then [] else if kindF r = 2 then [32] else if kindF r = 3 then [r + 32] else [r]
def l1 (rs : List Int) : List Int := rs.flatMap f1
def lastZ (l : List Int) : Int := l.getD (l.length - 1) 0
def step2 (out : List Int) (c : Int) : List Int := if c = 32 ∧ (out = [] ∨ lastZ out = 32) then out else out ++ [c]
def trimZ (out : List Int) : List Int := if 0 < out.length ∧ lastZ out = 32 then out.take (out.length - 1) else out
theorem lastZ_app (l : List Int) (c : Int) : lastZ (l ++ [c]) = c := by simp [lastZ, List.getD_eq_getElem?_getD]
theorem l1_app (a b : List Int) : l1 (a ++ b) = l1 a ++ l1 b := List.flatMap_append ..
theorem l1_one (r : Int) : l1 [r] = f1 r := by simp [l1]
theorem kind3_great {r : Int} (h : kindF r = 3) : Great r := by
  unfold kindF at h
  split at h
  · exact absurd h (by decide)
  · split at h
    · exact absurd h (by decide)
    · split at h
      · assumption
      · exact absurd h (by decide)
theorem kind0_32 {r : Int} (h : kindF r = 0) : r ≠ 32 := fun e => by subst e; exact absurd h (by decide)
theorem kindw (r : Int) : kindF r = 1 ∨ kindF r = 2 ∨ kindF r = 3 ∨ kindF r = 0 := by
  unfold kindF; split
  · exact .inl rfl
  · split
    · exact .inr (.inl rfl)
    · split
      · exact .inr (.inr (.inl rfl))
      · exact .inr (.inr (.inr rfl))
def J2 (o2 : List Int) (st : List Int × Bool) : Prop := o2 = st.1 ++ (if st.2 = true then [32] else []) ∧ (st.2 = true → st.1 ≠ []) ∧ (st.1 = [] ∨ lastZ st.1 ≠ 32)
theorem j2_step {o2 : List Int} {st : List Int × Bool} (r : Int) (h : J2 o2 st) : J2 ((f1 r).foldl step2 o2) (stepP st r) := by
  obtain ⟨out, parted⟩ := st
  obtain ⟨h1, h2, h3⟩ := h
  simp only at h1 h2 h3
  have add : ∀ c : Int, c ≠ 32 → J2 (step2 o2 c) (out ++ (if parted = true then [32] else []) ++ [c], false) := fun c hc => by
    unfold step2
    rw [if_neg (fun h => hc h.1), h1]
    exact ⟨by simp, by simp, .inr (by simp only [lastZ_app]; exact hc)⟩
  rcases kindw r with hk | hk | hk | hk
  · simp only [f1, stepP, hk, if_true, List.foldl_nil]
    exact ⟨h1, h2, h3⟩
  · have e : f1 r = [32] := by simp [f1, hk]
    have e2 : stepP (out, parted) r = (out, decide (out ≠ [])) := by simp [stepP, hk]
    rw [e, e2]
    simp only [List.foldl_cons, List.foldl_nil]
    unfold step2
    cases parted
    · simp only [Bool.false_eq_true, if_false, List.append_nil] at h1
      subst h1
      rcases h3 with h3 | h3
      · subst h3
        rw [if_pos ⟨rfl, .inl rfl⟩]
        exact ⟨by simp, by simp, .inl rfl⟩
      · have hne : o2 ≠ [] ∨ o2 = [] := by by_cases h : o2 = [] <;> simp [h]
        rcases hne with hne | hne
        · rw [if_neg (fun h => h.2.elim hne h3)]
          exact ⟨by simp [hne], fun _ => hne, .inr h3⟩
        · subst hne
          rw [if_pos ⟨rfl, .inl rfl⟩]
          exact ⟨by simp, by simp, .inl rfl⟩
    · have hne := h2 rfl
      simp only [if_true] at h1
      rw [if_pos ⟨rfl, .inr (by rw [h1]; exact lastZ_app _ _)⟩]
      refine ⟨by rw [h1]; simp [hne], fun _ => hne, h3⟩
  · have e : f1 r = [r + 32] := by simp [f1, hk]
    have e2 : stepP (out, parted) r = (out ++ (if parted = true then [32] else []) ++ [r + 32], false) := by simp [stepP, hk]
    have hg := kind3_great hk
    rw [e, e2]
    exact add _ (by unfold Great at hg; omega)
  · have e : f1 r = [r] := by simp [f1, hk]
    have e2 : stepP (out, parted) r = (out ++ (if parted = true then [32] else []) ++ [r], false) := by simp [stepP, hk]
    rw [e, e2]
    exact add _ (kind0_32 hk)
theorem j2_all : ∀ (rs : List Int) (o2 : List Int) (st : List Int × Bool), J2 o2 st → J2 ((l1 rs).foldl step2 o2) (rs.foldl stepP st)
  | [], _, _, h => h
  | r :: rs, o2, st, h => by
    have e : l1 (r :: rs) = f1 r ++ l1 rs := by simp [l1]
    rw [e, List.foldl_append, List.foldl_cons]
    exact j2_all rs _ _ (j2_step r h)
theorem prep2_eq (rs : List Int) : trimZ ((l1 rs).foldl step2 []) = prepR rs := by
  have h := j2_all rs [] ([], false) ⟨rfl, by simp, .inl rfl⟩
  unfold prepR
  obtain ⟨st, hst⟩ : ∃ st, rs.foldl stepP ([], false) = st := ⟨_, rfl⟩
  obtain ⟨o2, ho⟩ : ∃ o, (l1 rs).foldl step2 [] = o := ⟨_, rfl⟩
  rw [hst, ho] at h ⊢
  obtain ⟨out, parted⟩ := st
  obtain ⟨h1, h2, h3⟩ := h
  simp only at h1 h2 h3 ⊢
  cases parted
  · simp only [Bool.false_eq_true, if_false, List.append_nil] at h1
    subst h1
    unfold trimZ
    rw [if_neg]
    rintro ⟨a, b⟩
    rcases h3 with h3 | h3
    · subst h3; simp at a
    · exact h3 b
  · simp only [if_true] at h1
    unfold trimZ
    rw [h1, if_pos ⟨by simp, lastZ_app _ _⟩]
    simp
theorem f1_fit {r : Int} (h : 0 ≤ r ∧ r ≤ 1114111) : FitR (f1 r) := by
  intro x hx
  unfold f1 at hx
  split at hx
  · simp at hx
  · split at hx
    · simp at hx; omega
    · split at hx
      · rename_i hk
        have hg := kind3_great hk
        unfold Great at hg
        simp at hx; omega
      · simp at hx; omega
theorem l1_fit {rs : List Int} (h : FitR rs) : FitR (l1 rs) := by
  intro x hx
  simp only [l1, List.mem_flatMap] at hx
  obtain ⟨r, hr, hx⟩ := hx
  exact f1_fit (h r hr) x hx
theorem f1_len (r : Int) : (f1 r).length ≤ 1 := by unfold f1; split <;> (try split) <;> (try split) <;> simp
theorem l1_len (rs : List Int) : (l1 rs).length ≤ rs.length := by
  induction rs with
  | nil => simp [l1]
  | cons r rs ih =>
    have e : l1 (r :: rs) = f1 r ++ l1 rs := by simp [l1]
    have := f1_len r
    rw [e, List.length_append, List.length_cons]; omega
theorem step2_fit {out : List Int} {c : Int} (h : FitR out) (hc : 0 ≤ c ∧ c ≤ 1114111) : FitR (step2 out c) := by
  unfold step2; split
  · exact h
  · exact h.app fun x hx => by simp at hx; subst hx; exact hc
theorem fold2_fit : ∀ (l o : List Int), FitR l → FitR o → FitR (l.foldl step2 o)
  | [], _, _, h => h
  | c :: l, o, hl, ho => fold2_fit l _ (fun x hx => hl x (List.mem_cons_of_mem _ hx)) (step2_fit ho (hl c List.mem_cons_self))
theorem step2_len (o : List Int) (c : Int) : (step2 o c).length ≤ o.length + 1 := by unfold step2; split <;> simp
theorem fold2_len : ∀ (l o : List Int), (l.foldl step2 o).length ≤ o.length + l.length
  | [], _ => by simp
  | c :: l, o => by
    have := fold2_len l (step2 o c)
    have := step2_len o c
    rw [List.foldl_cons, List.length_cons]; omega

/-! ### the conversions -/
theorem convF_eq (s : ByteArray) : ∀ (n p : Nat) (acc : Array Value), Conv.runesFrom s n p acc = acc ++ ((runesF s n p).map (Value.int .i32)).toArray
  | 0, _, acc => by simp [Conv.runesFrom, runesF]
  | n + 1, p, acc => by
    unfold Conv.runesFrom runesF
    by_cases h : p < s.size
    · rw [if_pos h, if_pos h]
      show Conv.runesFrom s n (p + (Utf8.decode s p).2) (acc.push (.int .i32 ((Utf8.decode s p).1 : Int))) = _
      rw [convF_eq s n]
      simp
    · rw [if_neg h, if_neg h]; simp
theorem conv_eq (s : ByteArray) : Conv.runesFrom s s.size 0 #[] = ((runes s).map (Value.int .i32)).toArray := by rw [convF_eq]; simp [runes]
theorem enc_bytes : ∀ (ns : List Int) (b : ByteArray), FitR ns → (ns.foldl (fun r n => r ++ Utf8.encode n) b).data.toList = b.data.toList ++ enc ns
  | [], b, _ => by simp [enc]
  | n :: ns, b, h => by
    have hn := h n List.mem_cons_self
    obtain ⟨k, rfl⟩ : ∃ k : Nat, n = k := ⟨n.toNat, by omega⟩
    rw [List.foldl_cons, enc_bytes ns _ (fun x hx => h x (List.mem_cons_of_mem _ hx))]
    have e : enc ((k : Int) :: ns) = Lib.encodeRune k ++ enc ns := by simp [enc]
    rw [e, ByteArray.data_append, Array.toList_append, encode_rune, List.append_assoc]
theorem bytes_enc {ns : List Int} (h : FitR ns) : runesBytes ns = ⟨(enc ns).toArray⟩ := by
  have e := enc_bytes ns ByteArray.empty h
  have : (runesBytes ns).data.toList = enc ns := by unfold runesBytes; rw [e]; rfl
  rw [← this]
theorem run_rune_str {P : Program} {w : World} (src dst e : TypeId) (hs : P.underlying src = some (.slice e)) (he : P.underlying e = some (.int .i32)) (hd : P.underlying dst = some .string) (A : Option Addr) (n c : Nat) (xs : List Int) (h : Rns w A n xs) :
    (convert src dst (.slice A n c)).run P w = .ok (.string ⟨(enc xs).toArray⟩) w := by
  obtain ⟨hl, hf, hc⟩ := h
  rw [← bytes_enc hf]
  rcases A with _ | a
  · have h0 : n = 0 := by
      rcases Nat.eq_zero_or_pos n with h | h
      · exact h
      · obtain ⟨b, off, e, _⟩ := hc h; cases e
    subst h0
    rw [List.eq_nil_of_length_eq_zero hl]
    exact run_convert_runes_nil w src dst e 0 c hs he hd
  · subst hl
    have := run_convert_runes w src dst e a xs.length c xs (Nat.le_refl _) hs he hd (fun j hj => by
      obtain ⟨b, off, e, _, hcc⟩ := hc (by omega)
      cases e
      rw [Addr.add_lit]; exact hcc j hj)
    rw [List.take_length] at this
    exact this
theorem runesF_len (s : ByteArray) : ∀ n p, (runesF s n p).length ≤ n
  | 0, _ => by simp [runesF]
  | n + 1, p => by
    unfold runesF; split
    · have := runesF_len s n (p + (Utf8.decode s p).2); rw [List.length_cons]; omega
    · simp
theorem runesF_fit (s : ByteArray) : ∀ n p, FitR (runesF s n p)
  | 0, _ => by intro x hx; simp [runesF] at hx
  | n + 1, p => by
    intro x hx
    unfold runesF at hx
    split at hx
    · rcases List.mem_cons.1 hx with rfl | hx
      · have := Lib.rune_le s p; omega
      · exact runesF_fit s n _ x hx
    · simp at hx
end Go.Proofs.YtomoinohfoalnaaDoor.txm
