/- What each law of names asks first: the live question. -/
import Derived.Test.YthcancakkkjpaaaGreatDoorRp
namespace Go.Proofs.YthcancakkkjpaaaGreatDoor.nmc
open Go.RowKit Go.Proofs.YthcancakkkjpaaaGreatDoor.tlvc Go.Proofs.YthcancakkkjpaaaGreatDoor.tlvd Go.Proofs.YthcancakkkjpaaaGreatDoor.ndc Go.Proofs.YthcancakkkjpaaaGreatDoor.txc Go.Proofs.YthcancakkkjpaaaGreatDoor.txm Go.Proofs.YthcancakkkjpaaaGreatDoor.intc Go.Proofs.YthcancakkkjpaaaGreatDoor.intm
set_option linter.unusedVariables false
set_option linter.unusedSimpArgs false
theorem eqA_refl (a : At) : eqA a a = true := by unfold eqA; rw [decide_eq_true rfl, decide_eq_true rfl]; rfl
theorem eqP_refl {α : Type} {p : α → α → Bool} (h : ∀ a, p a a = true) (l : List α) : eqP p l l = true := eqP_iff.2 ⟨rfl, fun i h1 h2 => h _⟩
def ann : List At := [⟨[2, 5, 4, 3], ⟨#[65, 110, 110]⟩⟩]
theorem ann_right : rightN ann = true := by kernel_rfl
theorem no_princ : princF ⟨⟨#[]⟩, []⟩ = none := princF_no (.inl rfl)
theorem un_ann : unP ann [] = true := rfl
theorem ins_lit {w : World} (cs : List Int) (e : TypeId) (fr : Nat × Nat) (hf : Fit8 cs) : Ins (w.alloc (.cells (cs.map (Value.int .i64)).toArray e fr)) (some ⟨w.heap.size, 0, none⟩) cs.length cs := by
  refine ⟨rfl, hf, fun _ => ⟨_, _, rfl, by simp, fun j hj => ?_⟩⟩
  rw [Nat.zero_add, World.cell?_alloc_mark]
  simp [List.getD_eq_getElem?_getD, List.getElem?_eq_getElem hj]
set_option maxRecDepth 100000 in
set_option maxHeartbeats 4000000 in
theorem head_any (w : World) (hT : Tabs w) : Calls Tryz.prog 4 #[] w fun e w' => e = .returned (.bool true) ∧ Below w.heap.size w w' := by
  obtain ⟨W1, hW1⟩ : ∃ x, (w.alloc (.cells #[.int .i64 2, .int .i64 5, .int .i64 4, .int .i64 3] 3)).alloc (.cells #[.slice (some ⟨w.heap.size, 0, none⟩) 4 4, .string ⟨#[65, 110, 110]⟩] 43) = x := ⟨_, rfl⟩
  have hb1 : Below w.heap.size w W1 := by rw [← hW1]; exact (below_new _ _).alloc (by simp) _
  have hz1 : W1.heap.size = w.heap.size + 2 := by rw [← hW1]; simp
  have hi : Ins W1 (some ⟨w.heap.size, 0, none⟩) 4 [2, 5, 4, 3] := by rw [← hW1]; exact (ins_lit (w := w) [2, 5, 4, 3] 3 _ (by intro x hx; simp at hx; omega)).below (below_new _ _)
  have p1 : W1.heap[w.heap.size + 1]? = some (.cells #[.slice (some ⟨w.heap.size, 0, none⟩) 4 4, .string ⟨#[65, 110, 110]⟩] 43) := by rw [← hW1]; exact heap_is (by simp)
  have hL : Lst atE (fun _ => True) W1 (some ⟨w.heap.size + 1, 0, none⟩) ann := fun _ => ⟨w.heap.size + 1, 0, rfl, by omega, trivial, fun i hi' => by
    have hi' : i = 0 := by simpa [ann] using hi'
    subst hi'
    refine ⟨[.slice (some ⟨w.heap.size, 0, none⟩) 4 4, .string ⟨#[65, 110, 110]⟩], fun j u hu => ?_, _, _, rfl, _, 4, 4, rfl, rfl, Nat.le_refl _, by unfold maxLen; decide, hi, fun _ _ _ _ _ => trivial, by show 3 ≤ maxLen; unfold maxLen; decide⟩
    rw [Lib.cell_of_heap p1]
    match j, hu with
    | 0, hu => exact hu
    | 1, hu => exact hu
    | j + 2, hu => simp at hu⟩
  have hz : ∀ a ∈ ann, a.text.size ≤ 8796093022208 := by
    intro a ha
    have ha : a = ⟨[2, 5, 4, 3], ⟨#[65, 110, 110]⟩⟩ := by simpa [ann] using ha
    subst ha
    show 3 ≤ 8796093022208
    omega
  have m1 : (1 : Nat) ≤ maxLen := by unfold maxLen; decide
  have hput := put_any (fun _ => True) _ 1 1 ann W1 rfl hL (Nat.le_refl _) m1 (hT.below hb1)
  have hnf : nameF ann = some (nameN ann) := by unfold nameF; rw [if_pos ann_right]
  rw [hnf] at hput
  have hpp := fun W (hW : Below w.heap.size w W) => putPrinc_any (fun _ => True) ⟨⟨#[]⟩, []⟩ (.string ⟨#[]⟩) (.slice none 0 0) W ⟨none, 0, rfl, rfl, Nat.le_refl _, Nat.zero_le _, Lst.nil _ _ _, Nat.zero_le _⟩ (hT.below hW)
  rw [no_princ] at hpp
  have hsm := fun W (hW : Below W1.heap.size W1 W) => same_any (fun _ => True) (fun _ => True) _ _ 1 1 1 1 ann ann W rfl rfl (hL.below hW) (hL.below hW) (Nat.le_refl _) m1 (Nat.le_refl _) m1 hz hz
  rw [eqP_refl eqA_refl] at hsm
  have hun := fun W (hW : Below W1.heap.size W1 W) => under_any (fun _ => True) (fun _ => True) _ none 1 1 0 0 ann [] W rfl rfl (hL.below hW) (Lst.nil _ _ _) (Nat.le_refl _) m1 (Nat.le_refl _) (Nat.zero_le _) hz (fun a ha => by simp at ha)
  rw [un_ann] at hun
  have HP := Lib.hid hput
  have HQ := Lib.hid hpp
  have HS := Lib.hid hsm
  have HU := Lib.hid hun
  have HB := Lib.hid hb1
  clear hput hpp hsm hun hL hi p1 hz m1 hnf hb1 hz1
  go_enter Tryz.func4, Tryz.ntmps4
  go_wp2_with fail
  refine HP.out.mono ?_
  rintro e w2 ⟨hb2, t, A5, la5, ca5, K5, lk5, ck5, rfl, hn⟩
  obtain ⟨e0, _, _, K6, ck6, e6, _⟩ := NdC.kidsL hn
  obtain rfl : t = 48 := by simpa using e0
  clear e0
  simp only [Value.slice.injEq] at e6
  obtain ⟨rfl, rfl, rfl⟩ := e6
  rw [show (List.map attrN ann).length = 1 from rfl]
  have hb3 := below_then hb2 (below_new w2 (.cells #[.int .u8 48, .slice A5 la5 ca5, .slice K5 1 ck5] 25)) (Nat.le_refl _)
  have hcall := HQ.out _ (below_then HB.out hb3 (Nat.le_refl _))
  have HC := Lib.hid hcall
  have H3 := Lib.hid (And.intro hb3 hb2)
  clear hcall hb3 hb2 hn HP HQ
  go_wp2_with fail
  refine HC.out.mono ?_
  rintro e w3 ⟨hb4, rfl⟩
  have hb5 := below_then H3.out.1 hb4 (Nat.le_refl _)
  have hb6 := below_then hb5 (below_new w3 (.cells #[.int .u8 0, .slice none 0 0, .slice none 0 0] 25)) (Nat.le_refl _)
  have q3 : (w3.alloc (.cells #[.int .u8 0, .slice none 0 0, .slice none 0 0] 25)).heap[w2.heap.size]? = some (.cells #[.int .u8 48, .slice A5 la5 ca5, .slice K5 1 ck5] 25) := by
    rw [heap_old_ _ _ (by have := hb4.size; rw [size_new] at this; omega)]
    exact (hb4.block _ (by rw [size_new]; omega)).trans (heap_new_ _ _)
  have x2 := (Lib.cell_of_heap q3 2).trans rfl
  have HS2 := Lib.hid (HS.out _ hb6)
  have H6 := Lib.hid hb6
  clear hb4 hb5 hb6 q3 HC HS H3
  go_wp2_with fail
  refine HS2.out.mono ?_
  rintro e w4 ⟨rfl, hb7⟩
  have hb8 := below_then H6.out hb7 (Nat.le_refl _)
  have HU2 := Lib.hid (HU.out _ hb8)
  have H8 := Lib.hid (below_then HB.out hb8 (Nat.le_refl _))
  clear hb7 hb8 HS2 HU H6 HB
  go_wp2_with fail
  refine HU2.out.mono ?_
  rintro e w5 ⟨rfl, hb9⟩
  have hfin := Lib.hid (below_then H8.out hb9 (Nat.le_refl _))
  clear hb9 HU2 H8
  go_wp2
  go_ret
  exact ⟨rfl, hfin.out⟩
end Go.Proofs.YthcancakkkjpaaaGreatDoor.nmc
