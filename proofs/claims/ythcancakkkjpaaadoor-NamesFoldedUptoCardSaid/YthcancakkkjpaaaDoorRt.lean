/- Names joined, and what is alike to what: plain facts. -/
import Derived.Test.YthcancakkkjpaaaDoorRs
namespace Go.Proofs.YthcancakkkjpaaaDoor.nmc
open Go.RowKit Go.Proofs.YthcancakkkjpaaaDoor.tlvc Go.Proofs.YthcancakkkjpaaaDoor.tlvd Go.Proofs.YthcancakkkjpaaaDoor.ndc Go.Proofs.YthcancakkkjpaaaDoor.txc Go.Proofs.YthcancakkkjpaaaDoor.txm Go.Proofs.YthcancakkkjpaaaDoor.intc Go.Proofs.YthcancakkkjpaaaDoor.intm
set_option linter.unusedVariables false
theorem Tryd.infoAttr : (Tryd.prog.info? 49).map (fun i => (i.zero, i.size, i.bytes)) = some (some (.agg #[.slice none 0 0, .string ⟨#[]⟩]), 2, 40) := by kernel_rfl
theorem Tryd.infA : Inf Tryd.prog 23 49 atE.sz 40 := by
  obtain ⟨i0, hi, hz0, hz1, hz2⟩ := info_parts Tryd.infoAttr
  exact ⟨Tryd.underlying23, i0, _, hi, hz0, hz1, hz2, rfl⟩
theorem GRow.empty {α : Type} {E : El α} {e : TypeId} {base : Nat} {Y : Nat → Prop} {w : World} {g : Nat} (hb : base ≤ g) (h : w.heap[g]? = some (.cells #[] e)) : GRow E e base Y w (.slice (some ⟨g, 0, none⟩) 0 0) ([] : List α) :=
  ⟨[], ⟨by simp, .inr ⟨g, 0, #[], rfl, hb, h, Nat.le_refl _, Nat.zero_le _, by simp, by simp⟩⟩, rfl⟩
theorem more_run (W : World) (A A' : Option Addr) (n c m d : Nat) (xs ys : List At) (hl : xs.length = n) (hl2 : ys.length = m) (hL : Lst atE (fun g => g < W.heap.size) W A xs) (hL2 : Lst atE (fun g => g < W.heap.size) W A' ys) (hn : n ≤ 100000) (hm : m ≤ 100000) :
    ∃ V1 c1 w1 V2 c2 w2, (Builtin.append_ #[23, 23] 23 #[.slice (some ⟨W.heap.size, 0, none⟩) 0 0, .slice A n c]).run Tryd.prog (W.alloc (.cells #[] 49)) = .ok (.slice V1 n c1) w1 ∧
      (Builtin.append_ #[23, 23] 23 #[.slice V1 n c1, .slice A' m d]).run Tryd.prog w1 = .ok (.slice V2 (n + m) c2) w2 ∧ Lst atE (fun _ => True) w2 V2 (xs ++ ys) ∧ n + m ≤ c2 ∧ c2 ≤ maxLen ∧ Below W.heap.size W w2 := by
  subst hl hl2
  have hb0 := below_new W (.cells #[] 49)
  have hz := size_new W (.cells #[] 49)
  have h0 : GRow atE 49 W.heap.size (fun _ => True) (W.alloc (.cells #[] 49)) (.slice (some ⟨W.heap.size, 0, none⟩) 0 0) [] := GRow.empty (Nat.le_refl _) (heap_new_ _ _)
  obtain ⟨v1, w1, hr1, hg1, hgr1⟩ := h0.apps Tryd.infA (fun _ _ => trivial) 23 (A := A) (c := c) (ys := xs) ((hL.below hb0).on (Nat.le_refl _) (fun _ _ _ => rfl) (fun g hg _ => ⟨trivial, by rw [hz]; omega, fun e => absurd (show g = W.heap.size by simpa [Value.ownBlock] using e) (by omega)⟩)) (by simp; omega) (by simp; unfold maxLen; omega) hb0.size
  obtain ⟨V1, c1, rfl, _, _⟩ := hg1.shape
  have hB1 : Below W.heap.size W w1 := hb0.grown hgr1 hb0.size (fun j hj => by cases hj; exact Nat.le_refl _)
  have hown := hg1.lt
  obtain ⟨v2, w2, hr2, hg2, hgr2⟩ := hg1.apps Tryd.infA (fun _ _ => trivial) 23 (A := A') (c := d) (ys := ys) ((hL2.below hB1).on (Nat.le_refl _) (fun _ _ _ => rfl) (fun g hg hl => ⟨trivial, hl, fun e => by have := (hown g e.symm).1; omega⟩)) (by simp; omega) (by simp; unfold maxLen; omega) hB1.size
  obtain ⟨V2, c2, rfl, h3, h4⟩ := hg2.shape
  obtain ⟨V3, c3, e3, _, _, h5⟩ := hg2.lst (fun _ _ => trivial)
  simp only [Value.slice.injEq] at e3
  obtain ⟨rfl, _, rfl⟩ := e3
  simp only [List.nil_append] at hr1 hr2 h3 h5
  rw [List.length_append] at h3
  refine ⟨V1, c1, w1, V2, c2, w2, hr1, ?_, h5, h3, h4, hB1.grown hgr2 hB1.size (fun j hj => (hown j hj).1)⟩
  simpa using hr2
/-! ### What is alike to what -/
def keyA (a : At) : List Int × List UInt8 := (a.oid, prepF a.text)
def keyL (l : List At) : List (List Int × List UInt8) := l.map keyA
theorem eqA_key {a b : At} : eqA a b = true ↔ keyA a = keyA b := by
  unfold eqA keyA
  rw [Bool.and_eq_true, decide_eq_true_eq, decide_eq_true_eq]
  simp
theorem eqP_key {a b : List At} : eqP eqA a b = true ↔ keyL a = keyL b := by
  rw [eqP_iff]
  unfold keyL
  constructor
  · rintro ⟨hl, h⟩
    exact List.ext_getElem (by simpa using hl) fun i h1 h2 => by
      rw [List.getElem_map, List.getElem_map]
      exact eqA_key.1 (h i (by simpa using h1) (by simpa using h2))
  · intro h
    have hl : a.length = b.length := by simpa using congrArg List.length h
    refine ⟨hl, fun i h1 h2 => eqA_key.2 ?_⟩
    have := congrArg (fun l => l[i]?) h
    simpa [List.getElem?_map, List.getElem?_eq_getElem h1, List.getElem?_eq_getElem h2] using this
theorem unP_key {a b : List At} : unP a b = true ↔ keyL b <+: keyL a := by
  unfold unP
  rw [Bool.and_eq_true, decide_eq_true_eq, eqP_key]
  unfold keyL
  rw [List.map_take]
  constructor
  · rintro ⟨hl, h⟩
    rw [← h]
    exact List.take_prefix _ _
  · intro h
    refine ⟨by simpa using h.length_le, ?_⟩
    have := List.prefix_iff_eq_take.1 h
    rw [List.length_map] at this
    exact this.symm
theorem eqP_sym (a b : List At) : eqP eqA a b = eqP eqA b a := by
  rw [Bool.eq_iff_iff, eqP_key, eqP_key]
  exact eq_comm
theorem eqP_tr {a b c : List At} (h : eqP eqA a b = true) (k : eqP eqA b c = true) : eqP eqA a c = true := eqP_key.2 ((eqP_key.1 h).trans (eqP_key.1 k))
theorem unP_tr {a b c : List At} (h : unP a b = true) (k : unP b c = true) : unP a c = true := unP_key.2 ((unP_key.1 k).trans (unP_key.1 h))
theorem unP_more (a b : List At) : unP (a ++ b) a = true := unP_key.2 (by unfold keyL; rw [List.map_append]; exact List.prefix_append _ _)
theorem unP_both (a b : List At) : (unP a b && unP b a) = eqP eqA a b := by
  rw [Bool.eq_iff_iff, Bool.and_eq_true, unP_key, unP_key, eqP_key]
  constructor
  · rintro ⟨h, k⟩
    exact k.eq_of_length_le h.length_le
  · intro h
    rw [h]
    exact ⟨List.prefix_refl _, List.prefix_refl _⟩
end Go.Proofs.YthcancakkkjpaaaDoor.nmc
