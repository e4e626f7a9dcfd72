/- A list of numbers is put behind another one. -/
import Derived.Test.YtlhogjigdmpokaaGreatDoorFg
namespace Go.Proofs.YtlhogjigdmpokaaGreatDoor.vtc
open Go.RowKit Go.Proofs.YtlhogjigdmpokaaGreatDoor.tlvc Go.Proofs.YtlhogjigdmpokaaGreatDoor.tmc Go.Proofs.YtlhogjigdmpokaaGreatDoor.rfc
set_option linter.unusedVariables false
theorem app_ints (w : World) (base : Nat) (v : Value) (n : Nat) (cs : List Value) (hown : w.ownsRow base 3 1 v n cs) (A : Option Addr) (m c : Nat) (ys : List Int) (hb : Ins w A m ys) (hn : n + m ≤ 1000000) (hbase : base ≤ w.heap.size) :
    ∃ v' w', (Builtin.append_ #[23, 23] 23 #[v, .slice A m c]).run Tryz.prog w = .ok v' w' ∧ w'.ownsRow base 3 1 v' (n + m) (cs ++ ivals ys) ∧ w.grownBy w' v.ownBlock ∧ (v'.ownBlock = v.ownBlock ∨ ∃ g', v'.ownBlock = some g' ∧ w.heap.size ≤ g') := by
  obtain ⟨i0, hi, hz0, hz1, hz2⟩ := info_parts Tryz.infoInt
  rcases A with _ | ad
  · have hm : m = 0 := by
      rcases Nat.eq_zero_or_pos m with h0 | h0
      · exact h0
      · obtain ⟨b, off, h, _⟩ := hb.2.2 h0
        cases h
    subst hm
    have hn : ys = [] := List.eq_nil_of_length_eq_zero hb.1
    subst hn
    exact ⟨v, w, run_app_nil w base 23 23 3 i0 Tryz.underlying23 hi v n cs hown c, by simpa [ivals] using hown, World.grownBy.refl w _, .inl rfl⟩
  · obtain ⟨v', w', h1, h2, h3, _, h5⟩ := app_gen (P := Tryz.prog) w base 23 23 3 i0 (.int .i64 0) 1 8 Tryz.underlying23 hi hz0 hz1 hz2 rfl (by decide) v n cs hown ad m c (ivals ys) (by rw [ivals_length, hb.1]; omega)
      (fun j u hu => by
        have hj : j < ys.length := by
          have := (List.getElem?_eq_some_iff.1 hu).1
          rwa [ivals_length] at this
        obtain ⟨b, off, h, _, hc⟩ := hb.2.2 (by have := hb.1; omega)
        cases h
        rw [Addr.add_lit, hc j (by have := hb.1; omega), ← hu]
        simp [ivals, List.getD_eq_getElem?_getD, List.getElem?_eq_getElem hj]) (ivals_one ys) (by unfold maxLen; omega) (by omega) hbase
    exact ⟨v', w', h1, h2, h3, h5⟩
/-- Two lists behind one another, from nothing. -/
theorem app_both (w : World) (A B : Option Addr) (n c m d : Nat) (xs ys : List Int) (hx : Ins w A n xs) (hy : Ins w B m ys) (hn : n + m ≤ 1000000) : ∃ v1 w1 v2 w2, (Builtin.append_ #[23, 23] 23 #[.slice (some ⟨w.heap.size, 0, none⟩) 0 0, .slice A n c]).run Tryz.prog (w.alloc (.cells #[] 3)) = .ok v1 w1 ∧ (Builtin.append_ #[23, 23] 23 #[v1, .slice B m d]).run Tryz.prog w1 = .ok v2 w2 ∧
    (∃ A2 c2, v2 = .slice A2 (n + m) c2 ∧ n + m ≤ c2 ∧ c2 ≤ maxLen ∧ Ins w2 A2 (n + m) (xs ++ ys)) ∧ Below w.heap.size w w2 := by
  have hb0 := below_new w (.cells #[] 3)
  have hq := heap_new_ w (.cells #[] 3)
  have hz : (w.alloc (.cells #[] 3)).heap.size = w.heap.size + 1 := World.size_alloc _ _
  have hown : (w.alloc (.cells #[] 3)).ownsRow w.heap.size 3 1 (.slice (some ⟨w.heap.size, 0, none⟩) 0 0) 0 [] := ⟨rfl, .inr ⟨w.heap.size, 0, #[], rfl, Nat.le_refl _, hq, Nat.le_refl _, Nat.zero_le _, rfl, rfl⟩⟩
  obtain ⟨v1, w1, h1, h2, h3, _⟩ := app_ints (w.alloc (.cells #[] 3)) w.heap.size _ 0 [] hown A n c xs (hx.below hb0) (by omega) (by omega)
  have hb1 : Below w.heap.size w w1 := hb0.grown h3 (by omega) (fun k hk => by cases hk; exact Nat.le_refl _)
  obtain ⟨v2, w2, k1, k2, k3, _⟩ := app_ints w1 w.heap.size v1 _ _ h2 B m d ys (hy.below hb1) (by omega) hb1.size
  have hb2 : Below w.heap.size w w2 := hb1.grown k3 hb1.size (fun k hk => (h2.lt k hk).1)
  refine ⟨v1, w1, v2, w2, h1, k1, ?_, hb2⟩
  obtain ⟨A2, c2, rfl, e1, e2, _⟩ := own_shape k2
  rw [Nat.zero_add] at k2 e1 ⊢
  refine ⟨A2, c2, rfl, e1, e2, Ins.own (w := w2) (base := w.heap.size) (e := 3) (c := c2) ?_ (hx.2.1.app hy.2.1)⟩
  rw [ivals_append]
  exact k2
end Go.Proofs.YtlhogjigdmpokaaGreatDoor.vtc
