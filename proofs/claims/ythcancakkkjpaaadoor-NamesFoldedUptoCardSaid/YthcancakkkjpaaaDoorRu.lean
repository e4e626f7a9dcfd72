/- Two lists of a law's own that grow side by side; a text's great letters. -/
import Derived.Test.YthcancakkkjpaaaDoorRt
import Derived.Test.YthcancakkkjpaaaDoorXg
import Derived.Deep.RegionHeld3
namespace Go.Proofs.YthcancakkkjpaaaDoor.nmc
open Go.RowKit Go.Proofs.YthcancakkkjpaaaDoor.tlvc Go.Proofs.YthcancakkkjpaaaDoor.tlvd Go.Proofs.YthcancakkkjpaaaDoor.ndc Go.Proofs.YthcancakkkjpaaaDoor.txc Go.Proofs.YthcancakkkjpaaaDoor.txm Go.Proofs.YthcancakkkjpaaaDoor.intc Go.Proofs.YthcancakkkjpaaaDoor.intm
set_option linter.unusedVariables false
theorem prepR_len (rs : List Int) : (prepR rs).length ≤ rs.length := by
  rw [← prep2_eq]
  have h1 := fold2_len (l1 rs) []
  have h2 := l1_len rs
  unfold trimZ
  split
  · rw [List.length_take]; simp at h1; omega
  · simp at h1; omega
theorem prepF_size (s : ByteArray) : (⟨(prepF s).toArray⟩ : ByteArray).size ≤ 4 * s.size := by
  have h1 := enc_len (prepR (runes s))
  have h2 := prepR_len (runes s)
  have h3 : (runes s).length ≤ s.size := runesF_len s _ _
  show (prepF s).toArray.size ≤ _
  rw [List.size_toArray]
  unfold prepF
  omega
/-- How far the great letters have come. -/
def half (s : ByteArray) (k j : Nat) : Int := if j < k then upI (numAt s j) else numAt s j
theorem half_step {w : World} {g : Nat} {s : ByteArray} {k : Nat} (h : Gr w g s.size (half s k)) (e : upI (numAt s k) = numAt s k) : Gr w g s.size (half s (k + 1)) :=
  h.congr fun j hj => by
    unfold half
    by_cases h1 : j < k
    · rw [if_pos h1, if_pos (by omega)]
    · by_cases h2 : j = k
      · subst h2; rw [if_neg h1, if_pos (by omega), e]
      · rw [if_neg h1, if_neg (by omega)]
theorem half_set {w : World} {g : Nat} {s : ByteArray} {k : Nat} (hk : k < s.size) (h : Gr w g s.size (half s k)) {z : Int} (e : upI (numAt s k) = z) : Gr (w.setCell ⟨g, k, none⟩ (.int .u8 z)) g s.size (half s (k + 1)) :=
  (h.set hk z).congr fun j hj => by
    unfold half
    by_cases h2 : j = k
    · subst h2; rw [if_pos rfl, if_pos (by omega), e]
    · by_cases h1 : j < k
      · rw [if_neg h2, if_pos h1, if_pos (by omega)]
      · rw [if_neg h2, if_neg h1, if_neg (by omega)]
theorem half_bys {w : World} {g : Nat} {s : ByteArray} (h : Gr w g s.size (half s s.size)) : Bys w (some ⟨g, 0, none⟩) s.size ((List.range s.size).map fun j => upI (numAt s j)) := by
  have e : ∀ j, j < s.size → ((List.range s.size).map fun j => upI (numAt s j)).getD j 0 = upI (numAt s j) := fun j hj => by
    rw [List.getD_eq_getElem?_getD, List.getElem?_map, List.getElem?_range hj]; rfl
  refine ⟨by simp, fun x hx => ?_, fun hn => ⟨g, 0, rfl, h.1, fun j hj => ?_⟩⟩
  · simp only [List.mem_map, List.mem_range] at hx
    obtain ⟨j, _, rfl⟩ := hx
    have := numAt_bd s j
    unfold upI; split <;> omega
  · rw [Nat.zero_add, (h.2 j hj).1, e j hj]
    unfold half; rw [if_pos hj]
theorem half_text (s : ByteArray) : prepF (strOfNums ((List.range s.size).map fun j => upI (numAt s j))) = prepF s := by
  have e : ∀ j, j < s.size → ((List.range s.size).map fun j => upI (numAt s j)).getD j 0 = upI (numAt s j) := fun j hj => by
    rw [List.getD_eq_getElem?_getD, List.getElem?_map, List.getElem?_range hj]; rfl
  rw [up_text (by simp) e, prepF_up]
/-- Two lists of parts of names, side by side. -/
structure Two (W0 : World) (va vb : Value) (xs ys : List At) (wx : World) : Prop where
  bel : Below W0.heap.size W0 wx
  ra : ∃ cs, wx.ownsRow W0.heap.size 49 atE.sz va xs.length cs ∧ All atE (fun g => g < W0.heap.size) wx xs cs
  rb : ∃ cs, wx.ownsRow W0.heap.size 49 atE.sz vb ys.length cs ∧ All atE (fun g => g < W0.heap.size) wx ys cs
  ne : ∀ g, va.ownBlock = some g → vb.ownBlock ≠ some g
section
variable {W0 wx w' : World} {va vb : Value} {xs ys : List At}
theorem Two.start : Two W0 (.slice none 0 0) (.slice none 0 0) [] [] W0 := ⟨Below.refl _ _, ⟨[], World.ownsRow_nil _ _ _ _, rfl⟩, ⟨[], World.ownsRow_nil _ _ _ _, rfl⟩, fun g h => by cases h⟩
theorem Two.swap_ (h : Two W0 va vb xs ys wx) : Two W0 vb va ys xs wx := ⟨h.bel, h.rb, h.ra, fun g h1 h2 => h.ne g h2 h1⟩
theorem Two.ltA (h : Two W0 va vb xs ys wx) : ∀ g, va.ownBlock = some g → W0.heap.size ≤ g ∧ g < wx.heap.size := by
  obtain ⟨cs, ho, _⟩ := h.ra
  exact ho.lt
theorem Two.ltB (h : Two W0 va vb xs ys wx) : ∀ g, vb.ownBlock = some g → W0.heap.size ≤ g ∧ g < wx.heap.size := h.swap_.ltA
theorem row_keep {e : TypeId} {sz base n : Nat} {v : Value} {cs : List Value} (h : wx.ownsRow base e sz v n cs) (hk : ∀ g, v.ownBlock = some g → w'.heap[g]? = wx.heap[g]?) : w'.ownsRow base e sz v n cs := by
  refine ⟨h.1, ?_⟩
  rcases h.2 with hh | ⟨g, cap, cur, e1, hbg, hg, r⟩
  · exact .inl hh
  · exact .inr ⟨g, cap, cur, e1, hbg, (hk g (by rw [e1]; rfl)).trans hg, r⟩
theorem Two.keep (h : Two W0 va vb xs ys wx) (hbel : Below W0.heap.size W0 w') (hs : wx.heap.size ≤ w'.heap.size) (hk : ∀ g, g < wx.heap.size → (g < W0.heap.size ∨ va.ownBlock = some g ∨ vb.ownBlock = some g) → w'.heap[g]? = wx.heap[g]?) : Two W0 va vb xs ys w' := by
  obtain ⟨cs, ho, ha⟩ := h.ra
  obtain ⟨ds, ho2, ha2⟩ := h.rb
  exact ⟨hbel, ⟨cs, row_keep ho (fun g e => hk g (h.ltA g e).2 (.inr (.inl e))), ha.on hs (fun g hg hl => hk g hl (.inl hg)) (fun g hg _ => hg)⟩,
    ⟨ds, row_keep ho2 (fun g e => hk g (h.ltB g e).2 (.inr (.inr e))), ha2.on hs (fun g hg hl => hk g hl (.inl hg)) (fun g hg _ => hg)⟩, h.ne⟩
theorem Two.below (h : Two W0 va vb xs ys wx) (hb : Below wx.heap.size wx w') : Two W0 va vb xs ys w' := h.keep (below_then h.bel hb (Nat.le_refl _)) hb.size (fun g hg _ => hb.block g hg)
theorem Two.set (h : Two W0 va vb xs ys wx) {sg k : Nat} {v : Value} (h0 : W0.heap.size ≤ sg) (ha : va.ownBlock ≠ some sg) (hb : vb.ownBlock ≠ some sg) : Two W0 va vb xs ys (wx.setCell ⟨sg, k, none⟩ v) :=
  h.keep (h.bel.setCell (p := ⟨sg, k, none⟩) h0 v) (by rw [set_size]; exact Nat.le_refl _) (fun g hg hy => set_heap_other _ _ _ _ _ (fun e => by
    subst e
    rcases hy with hy | hy | hy
    · omega
    · exact ha hy
    · exact hb hy))
theorem Two.pushA (h : Two W0 va vb xs ys wx) (hb : Below wx.heap.size wx w') {x : At} {news : List Value} (hx : atE.hold (fun g => g < W0.heap.size) w' x news) {g1 : Nat} (hg1 : wx.heap.size ≤ g1) {T : TypeId} {fr : Nat × Nat} {bs : Array Value} (hbox : w'.heap[g1]? = some (.cells bs T fr)) (hcs : ∀ (j : Nat) (u : Value), news[j]? = some u → bs[j]? = some u) (hn : xs.length ≤ 1000) :
    ∃ A c w2, (Builtin.append_ #[23, 23] 23 #[va, .slice (some ⟨g1, 0, none⟩) 1 1]).run Tryd.prog w' = .ok (.slice A (xs.length + 1) c) w2 ∧ Two W0 (.slice A (xs.length + 1) c) vb (xs ++ [x]) ys w2 ∧ (∀ g, g < w'.heap.size → va.ownBlock ≠ some g → w2.heap[g]? = w'.heap[g]?) ∧ w'.heap.size ≤ w2.heap.size ∧ (∀ g, g < w'.heap.size → va.ownBlock ≠ some g → (Value.slice A (xs.length + 1) c).ownBlock ≠ some g) := by
  have h' := h.below hb
  obtain ⟨cs, ho, ha⟩ := h'.ra
  obtain ⟨i, z, hi, hz, hsize, hby, hzs⟩ := Tryd.infA.ex
  have hown := h'.ltA
  obtain ⟨v', w2, hr, hown', hgr, _, hob⟩ := app_gen (P := Tryd.prog) w' W0.heap.size 23 23 49 i z atE.sz 40 Tryd.infA.ht hi hz hsize hby hzs atE.pos va xs.length cs ho ⟨g1, 0, none⟩ 1 1 news (by rw [atE.len hx, Nat.one_mul])
    (fun j u hu => by rw [Addr.add_lit, Nat.zero_add, Lib.cell_of_heap hbox]; exact hcs j u hu) (atE.one hx) (by unfold maxLen; omega) (by omega) h'.bel.size
  obtain ⟨A, c, rfl⟩ : ∃ A c, v' = .slice A (xs.length + 1) c := by
    rcases hown'.2 with ⟨_, h0⟩ | ⟨g, cap, cur, e, _⟩
    · omega
    · exact ⟨_, _, e⟩
  have hkept : ∀ g, g < w'.heap.size → va.ownBlock ≠ some g → w2.heap[g]? = w'.heap[g]? := fun g hg hne => hgr.block g hg (fun e => hne e.symm)
  have hob2 : ∀ g, g < w'.heap.size → va.ownBlock ≠ some g → (Value.slice A (xs.length + 1) c).ownBlock ≠ some g := fun g hg hne e => by
    rcases hob with h1 | ⟨g', h1, h2⟩
    · exact hne (by rw [← h1]; exact e)
    · rw [h1] at e; cases e; omega
  have hbel2 : Below W0.heap.size W0 w2 := h'.bel.grown hgr h'.bel.size (fun j hj => (hown j hj).1)
  refine ⟨A, c, w2, hr, ⟨hbel2, ⟨cs ++ news, by rw [List.length_append]; exact hown', ?_⟩, ?_, ?_⟩, hkept, hgr.size, hob2⟩
  · exact All.on hgr.size (fun g hg hl => hkept g hl (fun e => by have := (hown g e).1; omega)) (fun g hg _ => hg) ((All.one_ hx).app ha)
  · obtain ⟨ds, ho2, ha2⟩ := h'.rb
    exact ⟨ds, row_keep ho2 (fun g e => hkept g (h'.ltB g e).2 (fun e' => h'.ne g e' e)), ha2.on hgr.size (fun g hg hl => hkept g hl (fun e => by have := (hown g e).1; omega)) (fun g hg _ => hg)⟩
  · intro g e e2
    exact hob2 g (h'.ltB g e2).2 (fun e' => h'.ne g e' e2) e
theorem Two.listA (h : Two W0 va vb xs ys wx) : ∃ A c, va = .slice A xs.length c ∧ xs.length ≤ c ∧ c ≤ maxLen ∧ Lst atE (fun _ => True) wx A xs := by
  obtain ⟨cs, ho, ha⟩ := h.ra
  have hown := h.ltA
  exact GRow.lst (E := atE) (e := 49) (base := W0.heap.size) (Y := fun _ => True) (fun _ _ => trivial) ⟨cs, ho, ha.on (Nat.le_refl _) (fun _ _ _ => rfl) (fun g hg hl => ⟨trivial, hl, fun e => by have := (hown g e.symm).1; omega⟩)⟩
end
/-- A part of a name with its text prepared; with great letters. -/
def atP (a : At) : At := ⟨a.oid, prS a.text⟩
def atU (a : At) : At := ⟨a.oid, strOfNums ((List.range a.text.size).map fun j => upI (numAt a.text j))⟩
theorem prS_size (s : ByteArray) : (prS s).size ≤ 4 * s.size := prepF_size s
theorem atP_key (a : At) : keyA (atP a) = keyA a := by
  unfold keyA atP prS
  rw [prepF_idem]
theorem atU_key (a : At) : keyA (atU a) = keyA a := by
  unfold keyA atU
  rw [half_text]
theorem mapP (l : List At) : eqP eqA l (l.map atP) = true := eqP_key.2 (by unfold keyL; rw [List.map_map]; exact List.map_congr_left fun a _ => (atP_key a).symm)
theorem mapU (l : List At) : eqP eqA l (l.map atU) = true := eqP_key.2 (by unfold keyL; rw [List.map_map]; exact List.map_congr_left fun a _ => (atU_key a).symm)
theorem unP_take (l : List At) (k : Nat) : unP l (l.take k) = true := unP_key.2 (by unfold keyL; rw [List.map_take]; exact List.take_prefix _ _)
theorem eqP_short {l : List At} {k : Nat} (h : k + 1 = l.length) : eqP eqA l (l.take k) = false := eqP_no (by rw [List.length_take]; omega)
end Go.Proofs.YthcancakkkjpaaaDoor.nmc
