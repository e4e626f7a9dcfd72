/- The last of a put: the term itself into the list, its number into the map. -/
import Derived.Test.YtfmdmahlljbbmaaGreatDoorVh
namespace Go.Proofs.YtfmdmahlljbbmaaGreatDoor.vtc
open Go.RowKit Go.Proofs.YtfmdmahlljbbmaaGreatDoor.tlvc Go.Proofs.YtfmdmahlljbbmaaGreatDoor.tmc
set_option linter.unusedVariables false
theorem wpl_update {P : Program} {w w' : World} {ops : Array Oper} {rest : List Oper} {o : Oper} {a : Act} {Q : Exit → Act → World → Prop} (hg : o.guard = none) (m x v : Operand) (t : TypeId) (hop : o.op = Op.mapUpdate t m x v) (vm vx vv : Value) (hm : a.eval m = vm) (hx : a.eval x = vx) (hv : a.eval v = vv)
    (hrun : (Instr.mapUpdate t vm vx vv).run P w = .ok () w') (h : wpList P ops Q rest (a.put o.dst undef) w') : wpList P ops Q (o :: rest) a w := by
  refine wpList_plain hg fun K' hK' => ?_
  unfold Oper.wp
  simp [execOp, hop, hm, hx, hv, hrun, Result.andThen]
  exact hK' _ _ h
theorem set_comm (w : World) (g b i j : Nat) (u v : Value) (h : g ≠ b) : (w.setCell ⟨b, j, none⟩ v).setCell ⟨g, i, none⟩ u = (w.setCell ⟨g, i, none⟩ u).setCell ⟨b, j, none⟩ v := by
  have e : ((w.setCell ⟨b, j, none⟩ v).setCell ⟨g, i, none⟩ u).heap = ((w.setCell ⟨g, i, none⟩ u).setCell ⟨b, j, none⟩ v).heap := by
    apply Array.ext_getElem?
    intro k
    by_cases h1 : k = g
    · subst h1
      rw [set_heap_other (w.setCell ⟨k, i, none⟩ u) b j k v h]
      simp only [World.setCell, Array.getElem?_modify]
      simp [Ne.symm h]
    · rw [set_heap_other (w.setCell ⟨b, j, none⟩ v) g i k u h1]
      by_cases h2 : k = b
      · subst h2
        simp only [World.setCell, Array.getElem?_modify]
        simp [h]
      · rw [set_heap_other w b j k v h2, set_heap_other _ b j k v h2, set_heap_other w g i k u h1]
  show ({ (w.setCell ⟨b, j, none⟩ v).setCell ⟨g, i, none⟩ u with heap := ((w.setCell ⟨b, j, none⟩ v).setCell ⟨g, i, none⟩ u).heap } : World) = _
  rw [e]
  rfl
theorem set4_comm (w : World) (g b i j : Nat) (y0 y1 y2 y3 v : Value) (h : g ≠ b) : set4 (w.setCell ⟨b, j, none⟩ v) g i y0 y1 y2 y3 = (set4 w g i y0 y1 y2 y3).setCell ⟨b, j, none⟩ v := by
  unfold set4
  rw [set_comm w g b i j y0 v h, set_comm _ g b (i + 1) j y1 v h, set_comm _ g b (i + 2) j y2 v h, set_comm _ g b (i + 3) j y3 v h]
theorem wf_small (n : Nat) (h : n ≤ 4096) : (Lit.int .i64 (n : Int)).wf = true := by
  show (decide (IntKind.i64.min ≤ (n : Int)) && decide ((n : Int) ≤ IntKind.i64.max)) = true
  have h1 : IntKind.i64.min = -9223372036854775808 := by decide
  have h2 : IntKind.i64.max = 9223372036854775807 := by decide
  rw [h1, h2, Bool.and_eq_true, decide_eq_true_iff, decide_eq_true_iff]
  omega
theorem closed_snoc {L : List Tm} (h : Closed L) {t : Tm} (ht : KidsIn L t) : Closed (L ++ [t]) := fun i o' m' d' ks' e k hk => by
  rcases Nat.lt_or_ge i L.length with hl | hl
  · rw [List.getElem?_append_left hl] at e
    obtain ⟨j, hj, ej⟩ := h i o' m' d' ks' e k hk
    exact ⟨j, hj, by rw [List.getElem?_append_left (by omega)]; exact ej⟩
  · have hi : i = L.length := by
      have := (List.getElem?_eq_some_iff.1 e).1
      rw [List.length_append] at this
      simp at this
      omega
    subst hi
    rw [List.getElem?_append_right (Nat.le_refl _), Nat.sub_self] at e
    cases e
    obtain ⟨j, hj⟩ := List.getElem?_of_mem (ht k hk)
    have hjl := (List.getElem?_eq_some_iff.1 hj).1
    exact ⟨j, hjl, by rw [List.getElem?_append_left hjl]; exact hj⟩
section
variable {w : World} {S : Nat → Prop} {vb mb : Nat} {ob0 : Option Nat} {o m : Int} {tb : Obj} {Lx : List Tm} {zs : List Int} {us : List Tm} {ob : Option Nat} {A : Option Addr} {c : Nat} {v6 : Value} {w1 : World}
theorem PI.last (h : PI w S vb mb ob0 o m tb Lx zs us ob A c v6 w1) {w2 : World} (hb : Below w1.heap.size w1 w2) {A2 : Option Addr} {la c2 : Nat} {d : List Int} (hd : Bys w2 A2 la d) (hlc : la ≤ c2) (hcm : c2 ≤ maxLen) (hfar : ∀ g off sp, A2 = some ⟨g, off, sp⟩ → w1.heap.size ≤ g)
    (hnot : Tm.mk o m d us ∉ Lx) (hkin : ∀ k ∈ us, k ∈ Lx) (hr : rightF (.mk o m d us) 0 = true) (ho : I64 o) (hm : I64 m) (hl : Lx.length + 1 ≤ 4096) (hkey : (keyT Lx (.mk o m d us)).length ≤ 1000000) :
    ∃ A9 c9 g10 c10 w5 w8, (w2.frozen? ⟨w.heap.size + 1, 2, none⟩ = false ∧ ∃ v, w2.cell? ⟨w.heap.size + 1, 2, none⟩ = some v) ∧
      (∀ W : World, (W = w2.setCell ⟨w.heap.size + 1, 2, none⟩ (.slice A2 la c2) ∨ W = (w2.setCell ⟨w.heap.size + 1, 2, none⟩ (.slice A2 la c2)).alloc (.cells #[.int .i64 0, .int .i64 0, .slice none 0 0, .slice none 0 0] 57) ∨ W = w5) → W.cell? ⟨w.heap.size + 1, 0, none⟩ = some (.int .i64 o) ∧ W.cell? ⟨w.heap.size + 1, 1, none⟩ = some (.int .i64 m) ∧ W.cell? ⟨w.heap.size + 1, 2, none⟩ = some (.slice A2 la c2) ∧ W.cell? ⟨w.heap.size + 1, 3, none⟩ = some (.slice A us.length c)) ∧
      ((w2.setCell ⟨w.heap.size + 1, 2, none⟩ (.slice A2 la c2)).cell? ⟨vb, 0, none⟩ = some (.slice A9 Lx.length c9) ∧ Lx.length ≤ c9 ∧ c9 ≤ 9223372036854775807) ∧
      ((Builtin.append_ #[22, 22] 22 #[.slice A9 Lx.length c9, .slice (some ⟨(w2.setCell ⟨w.heap.size + 1, 2, none⟩ (.slice A2 la c2)).heap.size, 0, none⟩) 1 1]).run Tryz.prog ((w2.setCell ⟨w.heap.size + 1, 2, none⟩ (.slice A2 la c2)).alloc (.cells #[.int .i64 0, .int .i64 0, .slice none 0 0, .slice none 0 0] 57)).drew = .ok (.slice (some ⟨g10, 0, none⟩) (Lx.length + 1) c10) w5 ∧ Lx.length + 1 ≤ c10 ∧ c10 ≤ 9223372036854775807) ∧
      ((∀ j, w5.frozen? ⟨g10, j, none⟩ = false) ∧ w5.cell? ⟨g10, Lx.length * 4, none⟩ = some (.int .i64 0) ∧ w5.cell? ⟨g10, Lx.length * 4 + 1, none⟩ = some (.int .i64 0) ∧ w5.cell? ⟨g10, Lx.length * 4 + 2, none⟩ = some (.slice none 0 0) ∧ w5.cell? ⟨g10, Lx.length * 4 + 3, none⟩ = some (.slice none 0 0)) ∧
      (g10 ≠ vb ∧ w5.frozen? ⟨vb, 0, none⟩ = false ∧ w5.cell? ⟨vb, 0, none⟩ = some (.slice A9 Lx.length c9)) ∧
      (w5.cell? ⟨vb, 1, none⟩ = some (.map (some mb)) ∧ ((set4 w5 g10 (Lx.length * 4) (.int .i64 o) (.int .i64 m) (.slice A2 la c2) (.slice A us.length c)).setCell ⟨vb, 0, none⟩ (.slice (some ⟨g10, 0, none⟩) (Lx.length + 1) c10)).cell? ⟨vb, 1, none⟩ = some (.map (some mb))) ∧
      (Instr.mapUpdate 71 (.map (some mb)) (.string (strOfNums (keyT Lx (.mk o m d us)))) (.int .i64 (Lx.length : Nat))).run Tryz.prog ((set4 w5 g10 (Lx.length * 4) (.int .i64 o) (.int .i64 m) (.slice A2 la c2) (.slice A us.length c)).setCell ⟨vb, 0, none⟩ (.slice (some ⟨g10, 0, none⟩) (Lx.length + 1) c10)) = .ok () w8 ∧
      Vlt (fun g => S g ∨ w.heap.size ≤ g) w8 vb mb (some g10) (Lx ++ [.mk o m d us]) ∧ (some g10 = ob0 ∨ ∃ g, some g10 = some g ∧ w.heap.size ≤ g) ∧ Off (Mut vb mb ob0) w w8 := by
  have hz := h.size
  have hbs := hb.size
  have hbox2 := (hb.block (w.heap.size + 1) (by omega)).trans h.own
  obtain ⟨w3, hw3⟩ : ∃ x, w2.setCell ⟨w.heap.size + 1, 2, none⟩ (.slice A2 la c2) = x := ⟨_, rfl⟩
  have hbox3 := set_heap w2 (w.heap.size + 1) 2 (.slice A2 la c2) _ _ _ hbox2
  have hset3 := Off.set (S := fun g => g = w.heap.size + 1) w2 (w.heap.size + 1) 2 (.slice A2 la c2) rfl
  rw [hw3] at hbox3 hset3 ⊢
  have hs23 : w3.heap.size = w2.heap.size := by rw [← hw3, set_size]
  have hoffA : Off (fun g => g = w.heap.size + 1) w1 w3 := (Off.of_below (S := fun g => g = w.heap.size + 1) hb).trans hset3 (fun _ _ e => e) (fun _ _ e => e)
  have hV3 := (h.vlt.bound).off hoffA fun g hl hg e => by
    subst e
    rcases hg.1.1 with h1 | h1
    · have := h.bd _ h1; omega
    · omega
  obtain ⟨A9, c9, D, cs, m1, m2, m3, m4, m5, m6⟩ := hV3.mem
  obtain ⟨A9', c9', e9, k1, k2, _⟩ := own4_shape m2
  cases e9
  have hcl : cs.length = Lx.length * 4 := Quads.len m4
  have hal : Below w3.heap.size w3 (w3.alloc (.cells #[.int .i64 0, .int .i64 0, .slice none 0 0, .slice none 0 0] 57)).drew := (below_new _ _).drew
  have hq : (w3.alloc (.cells #[.int .i64 0, .int .i64 0, .slice none 0 0, .slice none 0 0] 57)).drew.heap[w3.heap.size]? = some (.cells #[.int .i64 0, .int .i64 0, .slice none 0 0, .slice none 0 0] 57) := heap_new_ _ _
  have hzal : w3.heap.size < (w3.alloc (.cells #[.int .i64 0, .int .i64 0, .slice none 0 0, .slice none 0 0] 57)).drew.heap.size := (Array.getElem?_eq_some_iff.1 hq).1
  obtain ⟨v', w5, hrun, ho5, hg5, hob5⟩ := app_terms (w3.alloc (.cells #[.int .i64 0, .int .i64 0, .slice none 0 0, .slice none 0 0] 57)).drew 0 (.slice A9 Lx.length c9) Lx.length cs (own_below m2 hal) ⟨w3.heap.size, 0, none⟩ 1 1 [.int .i64 0, .int .i64 0, .slice none 0 0, .slice none 0 0] rfl (fun u hu => by
    simp only [List.mem_cons, List.not_mem_nil, or_false] at hu
    rcases hu with rfl | rfl | rfl | rfl <;> rfl) (fun j u hu => by
    rw [Addr.add_lit, Nat.zero_add, Lib.cell_of_heap hq, ← hu]
    simp) (by omega) (Nat.zero_le _)
  obtain ⟨A10, c10, rfl, k3, k4, k5⟩ := own4_shape ho5
  obtain ⟨g10, rfl, _, hg10⟩ := k5 (by omega)
  rw [own_le A9, m3] at hob5 hg5
  have hnew : ob = some g10 ∨ w3.heap.size ≤ g10 := by
    rcases hob5 with e | ⟨g', e, hg'⟩
    · exact .inl e.symm
    · have e : some g10 = some g' := e
      cases e
      exact .inr (by omega)
  have hoblt : ∀ g, ob = some g → g < w1.heap.size := fun g e => h.vlt.lt (.inr (.inr e))
  have hvblt : vb < w1.heap.size := h.vlt.lt (.inl rfl)
  have hmblt : mb < w1.heap.size := h.vlt.lt (.inr (.inl rfl))
  have h10 : g10 ≠ vb ∧ g10 ≠ mb := by
    rcases hnew with e | e
    · exact ⟨fun e2 => h.vlt.apart.2.1 (by rw [e, e2]), fun e2 => h.vlt.apart.2.2 (by rw [e, e2])⟩
    · exact ⟨by omega, by omega⟩
  have hoffB : Off (fun g => ob = some g) w3 w5 := (Off.of_below (S := fun g => ob = some g) hal).trans (Off.grown (S := fun g => ob = some g) hg5 fun g e => e) (fun _ _ e => e) (fun _ _ e => e)
  obtain ⟨w6, hw6⟩ : ∃ x, set4 w5 g10 (Lx.length * 4) (.int .i64 o) (.int .i64 m) (.slice A2 la c2) (.slice A us.length c) = x := ⟨_, rfl⟩
  have hoffC := Off.set4 (S := fun g => g = g10) w5 g10 (Lx.length * 4) (.int .i64 o) (.int .i64 m) (.slice A2 la c2) (.slice A us.length c) rfl
  have hrow6 := set4_own (W := w5) (a := cs) (r := []) ho5 (.int .i64 o) (.int .i64 m) (.slice A2 la c2) (.slice A us.length c)
  rw [hcl, hw6, List.append_nil] at hrow6
  rw [hw6] at hoffC
  have hoffD := Off.set (S := fun g => g = vb) w6 vb 0 (.slice (some ⟨g10, 0, none⟩) (Lx.length + 1) c10) rfl
  have hvb5 : w5.heap[vb]? = some (.cells #[.slice A9 Lx.length c9, .map (some mb)] 73) := (hoffB.block vb (by omega) (fun e => h.vlt.apart.2.1 e)).trans m1
  have hs56 : w6.heap.size = w5.heap.size := by rw [← hw6, set4_size]
  have hs35 := hoffB.size
  have hvb6 := (hoffC.block vb (by omega) (fun e => h10.1 e.symm)).trans hvb5
  have hvb7 := set_heap w6 vb 0 (.slice (some ⟨g10, 0, none⟩) (Lx.length + 1) c10) _ _ _ hvb6
  obtain ⟨w7, hw7⟩ : ∃ x, w6.setCell ⟨vb, 0, none⟩ (.slice (some ⟨g10, 0, none⟩) (Lx.length + 1) c10) = x := ⟨_, rfl⟩
  rw [hw7] at hoffD hvb7
  have hs67 : w7.heap.size = w6.heap.size := by rw [← hw7, set_size]
  have hmap7 : w7.ownsMap Tryz.prog 9 (plainElem Tryz.prog 3) mb Lx.length D := map_same m5 ((hoffD.block mb (by omega) (fun e => h.vlt.apart.1 e.symm)).trans ((hoffC.block mb (by omega) (fun e => h10.2 e.symm)).trans (hoffB.block mb (by omega) (fun e => h.vlt.apart.2.2 e))))
  have hfit : FitT (.mk o m d us) := hd.2.1
  obtain ⟨w8, hup, hmap8, hg8⟩ := hmap7.update (Maps.string_keyed Tryz.underlying9) Tryz.underlying71 (by unfold maxLen; omega) (key_of _ hkey) (plainElem_int (a := (Lx.length : Nat)) Tryz.underlying3 (wf_small _ (by omega)))
  have hoffE : Off (fun g => g = mb) w7 w8 := Off.grown hg8 fun g e => (Option.some.inj e).symm
  have hown3 : ∀ W : World, W.heap[w.heap.size + 1]? = w3.heap[w.heap.size + 1]? → W.cell? ⟨w.heap.size + 1, 0, none⟩ = some (.int .i64 o) ∧ W.cell? ⟨w.heap.size + 1, 1, none⟩ = some (.int .i64 m) ∧ W.cell? ⟨w.heap.size + 1, 2, none⟩ = some (.slice A2 la c2) ∧ W.cell? ⟨w.heap.size + 1, 3, none⟩ = some (.slice A us.length c) := fun W hW => by
    have e := hW.trans hbox3
    exact ⟨(Lib.cell_of_heap e _).trans rfl, (Lib.cell_of_heap e _).trans rfl, (Lib.cell_of_heap e _).trans rfl, (Lib.cell_of_heap e _).trans rfl⟩
  have hz5 : ∀ i u, i < 4 → ([.int .i64 0, .int .i64 0, .slice none 0 0, .slice none 0 0] : List Value)[i]? = some u → w5.cell? ⟨g10, Lx.length * 4 + i, none⟩ = some u := fun i u hi hu => by
    rw [ho5.cellAt (Lx.length * 4 + i) (by omega), List.getElem?_append_right (by omega), hcl, Nat.add_sub_cancel_left, hu]
  have hall8 : Off (fun g => ob = some g ∨ g = g10 ∨ g = vb ∨ g = mb) w3 w8 := ((hoffB.trans hoffC (S'' := fun g => ob = some g ∨ g = g10 ∨ g = vb ∨ g = mb) (fun _ _ e => .inl e) (fun _ _ e => .inr (.inl e))).trans hoffD (S'' := fun g => ob = some g ∨ g = g10 ∨ g = vb ∨ g = mb) (fun _ _ e => e) (fun _ _ e => .inr (.inr (.inl e)))).trans hoffE (fun _ _ e => e) (fun _ _ e => .inr (.inr (.inr e)))
  have hout : ∀ g, g < w3.heap.size → ¬ Mut vb mb ob g → ¬ (ob = some g ∨ g = g10 ∨ g = vb ∨ g = mb) := fun g hgl hg e => by
    rcases e with e | e | e | e
    · exact hg (.inr (.inr e))
    · rcases hnew with e2 | e2
      · exact hg (.inr (.inr (by rw [e2, e])))
      · omega
    · exact hg (.inl e)
    · exact hg (.inr (.inl e))
  have hmut : ∀ g, g < w3.heap.size → ¬ Mut vb mb ob g → ¬ Mut vb mb (some g10) g := fun g hgl hg e => by
    rcases e with e | e | e
    · exact hg (.inl e)
    · exact hg (.inr (.inl e))
    · have e : g10 = g := Option.some.inj e
      exact hout g hgl hg (.inr (.inl e.symm))
  refine ⟨A9, c9, g10, c10, w5, w8, ⟨Lib.frozen_of_heap hbox2 _, _, (Lib.cell_of_heap hbox2 _).trans rfl⟩, ?_, ⟨(Lib.cell_of_heap m1 _).trans rfl, k1, by unfold maxLen at k2; omega⟩, ⟨hrun, k3, by unfold maxLen at k4; omega⟩, ⟨fun j => ho5.frozenAt j, hz5 0 _ (by omega) rfl, hz5 1 _ (by omega) rfl, hz5 2 _ (by omega) rfl, hz5 3 _ (by omega) rfl⟩, ⟨h10.1, Lib.frozen_of_heap hvb5 _, (Lib.cell_of_heap hvb5 _).trans rfl⟩, ⟨(Lib.cell_of_heap hvb5 _).trans rfl, by rw [hw6, hw7]; exact (Lib.cell_of_heap hvb7 _).trans rfl⟩, by rw [hw6, hw7]; exact hup, ?_, ?_, ?_⟩
  · rintro W (rfl | rfl | rfl)
    · exact hown3 _ rfl
    · exact hown3 _ (heap_old_ _ _ (by omega))
    · exact hown3 _ (hoffB.block _ (by omega) (fun e => (h.mut (.inr (.inr e))).2.1 rfl))
  · refine ⟨⟨some ⟨g10, 0, none⟩, c10, _, cs ++ [.int .i64 o, .int .i64 m, .slice A2 la c2, .slice A us.length c], ?_, ?_, rfl, ?_, ?_, m6.put hV3.closed hV3.fit hkin hfit hnot⟩, ?_, ⟨h.vlt.apart.1, fun e => h10.1 (Option.some.inj e), fun e => h10.2 (Option.some.inj e)⟩, once_snoc h.vlt.once hnot, closed_snoc h.vlt.closed hkin, ?_, ?_, ?_⟩
    · rw [List.length_append]
      exact (hoffE.block vb (by omega) h.vlt.apart.1).trans hvb7
    · rw [List.length_append]
      refine own_same hrow6 fun g hg => ?_
      have hg : some g10 = some g := hg
      cases hg
      exact (hoffE.block g10 (by omega) h10.2).trans (hoffD.block g10 (by omega) h10.1)
    · refine Quads.snoc ?_ (Quads.below2 (hall8.stays fun g hgl hg => hout g hgl hg.2) (fun g hg hgl => ⟨?_, hmut g hgl hg.2⟩) m4)
      · have hk2 : TmC (fun g => (S g ∨ w.heap.size + 2 ≤ g) ∧ ¬ Mut vb mb ob g) w2 (.mk o m d us) (.int .i64 o) (.int .i64 m) (.slice A2 la c2) (.slice A us.length c) := by
          obtain ⟨cs1, r1, r2⟩ := h.row
          obtain ⟨A', c', e, q1, q2, q3⟩ := own4_shape r1
          cases e
          unfold TmC
          refine ⟨rfl, ho, rfl, hm, ⟨A2, la, c2, rfl, hlc, hcm, hd, fun _ g off sp e => ⟨.inr (by have := hfar g off sp e; omega), fun hmu => ?_⟩⟩, A, c, rfl, q1, q2, fun hpos => ?_⟩
          · have h1 := hfar g off sp e
            have h2 := h.vlt.lt hmu
            omega
          · obtain ⟨g, rfl, hgl, hgr⟩ := q3 hpos
            refine ⟨g, 0, rfl, by omega, ⟨.inr hgl, fun hmu => (h.mut hmu).2.2.1 rfl⟩, KidsC.below hb hgr ⟨.inr hgl, fun hmu => (h.mut hmu).2.2.1 rfl⟩ _ _ (Quads.kids (r2.mono fun g hg => ⟨hg.1.1, hg.2⟩) fun j u hu => ?_)⟩
            have hj := (List.getElem?_eq_some_iff.1 hu).1
            rw [Nat.zero_add, r1.cellAt j (by rw [← r1.1]; exact hj)]
            exact hu
        have hoff28 : Off (fun g => g = w.heap.size + 1 ∨ ob = some g ∨ g = g10 ∨ g = vb ∨ g = mb) w2 w8 := hset3.trans hall8 (fun _ _ e => .inl e) (fun _ _ e => .inr e)
        refine TmC.below2 (hoff28.stays fun g hgl hg e => ?_) hk2 fun g hg hgl => ⟨hg.1.imp id fun e => by omega, hmut g (by omega) hg.2⟩
        rcases e with e | e
        · rcases hg.1 with h1 | h1
          · have := h.bd g h1; omega
          · omega
        · exact hout g (by omega) hg.2 e
      · exact hg.1.1.1.imp id fun e => by omega
    · rw [List.length_append]
      exact hmap8
    · intro g hg
      have hS : ∀ g, Mut vb mb ob g → S g ∨ w.heap.size ≤ g := fun g hg => (h.vlt.all g hg).1.imp id fun e => by omega
      rcases hg with e | e | e
      · exact hS g (.inl e)
      · exact hS g (.inr (.inl e))
      · have e : g10 = g := Option.some.inj e
        subst e
        rcases hnew with e2 | e2
        · exact hS g10 (.inr (.inr e2))
        · exact .inr (by omega)
    · intro t ht
      rcases List.mem_append.1 ht with ht | ht
      · exact h.vlt.right t ht
      · rw [List.mem_singleton.1 ht]; exact hr
    · intro t ht
      rcases List.mem_append.1 ht with ht | ht
      · exact h.vlt.fit t ht
      · rw [List.mem_singleton.1 ht]; exact hfit
    · rw [List.length_append]; exact hl
  · rcases hnew with e | e
    · rcases h.hob with e2 | ⟨g, e2, hg⟩
      · exact .inl (e ▸ e2)
      · exact .inr ⟨g, e ▸ e2, hg⟩
    · exact .inr ⟨g10, rfl, by omega⟩
  · refine (h.off.trans hoffA (S'' := Mut vb mb ob0) (fun _ _ e => e) (fun g hgl e => by omega)).trans hall8 (fun _ _ e => e) (fun g hgl e => ?_)
    rcases e with e | e | e | e
    · exact h.old hgl (.inr (.inr e))
    · rcases hnew with e2 | e2
      · exact h.old hgl (.inr (.inr (by rw [e2, e])))
      · omega
    · exact .inl e
    · exact .inr (.inl e)
end
end Go.Proofs.YtfmdmahlljbbmaaGreatDoor.vtc
