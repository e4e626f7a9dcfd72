/- slices.SortFunc at terms, by Order. -/
import Derived.Test.YtlnclgpbobaedaaDoorTmK
import Derived.Test.YtlnclgpbobaedaaDoorShelf
import Derived.Shelf.SlSortCmp.NoneTotal
namespace Go.Proofs.YtlnclgpbobaedaaDoor.tmc
open Go.RowKit Go.Proofs.YtlnclgpbobaedaaDoor.tlvc
set_option linter.unusedVariables false
def cfT {S : Nat → Prop} {w : World} (x y : El S w) : Int := ordT x.tm y.tm
theorem swo_T (S : Nat → Prop) (w : World) : Sort.SWO (ltOf (cfT (S := S) (w := w))) where
  irrefl x := by unfold ltOf cfT; rw [ordT_refl]; rfl
  trans x y z h k := by
    unfold ltOf cfT at *
    have h := of_decide_eq_true h
    have k := of_decide_eq_true k
    exact decide_eq_true ((ordT_tri _ _ _ (by omega) (by omega)).2 (.inl h))
  ntrans x y z h k := by
    unfold ltOf cfT at *
    have h := of_decide_eq_false h
    have k := of_decide_eq_false k
    refine decide_eq_false ?_
    have h1 : Le y.tm x.tm := by unfold Le; rw [ordT_swap x.tm]; omega
    have h2 : Le z.tm y.tm := by unfold Le; rw [ordT_swap y.tm]; omega
    have h3 := le_trans_ h2 h1
    unfold Le at h3
    rw [ordT_swap x.tm] at h3
    omega
theorem grow_of_below {W w' : World} (hb : Below W.heap.size W w') (hd : W.drawn ≤ w'.drawn) : ∃ q os', w' = Sort.grow (W.drewN q) os' := by
  refine ⟨w'.drawn - W.drawn, w'.heap.extract W.heap.size w'.heap.size, ?_⟩
  have hh : w'.heap = W.heap ++ w'.heap.extract W.heap.size w'.heap.size := by
    apply Array.ext_getElem?
    intro k
    rcases Nat.lt_or_ge k W.heap.size with h | h
    · rw [hb.block k h, Array.getElem?_append_left h]
    · rw [Array.getElem?_append_right h, Array.getElem?_extract]
      by_cases hk : k < w'.heap.size
      · rw [if_pos (by omega)]
        congr 1
        omega
      · rw [if_neg (by omega), Array.getElem?_eq_none (by omega)]
  have ho := hb.os
  have ht := hb.tape
  have hp := hb.output
  cases w' with
  | mk h t d o p =>
    simp only at hh ho ht hp hd
    subst ho ht hp
    unfold Sort.grow World.drewN
    simp only
    rw [← hh, Nat.add_sub_cancel' hd]
/-- The sort's worlds: what lies in other blocks stands. -/
theorem sortW_block {α : Type} [Inhabited α] (enc : α → List Value) (k : Nat) (w : World) (blk off m : Nat) (dk : Array α) (os : Array Obj) {b : Nat} (hb : b ≠ blk) (hl : b < w.heap.size) :
    (sortWorldK enc k w blk off m dk os).heap[b]? = w.heap[b]? := by
  unfold sortWorldK
  rw [Sort.heap_grow_old _ _ (by rw [Sort.size_putRowK]; exact hl)]
  show ((w.heap.modify blk _))[b]? = _
  rw [Array.getElem?_modify, if_neg (Ne.symm hb)]
theorem sortW_at {α : Type} [Inhabited α] (enc : α → List Value) (k : Nat) (w : World) (blk off m : Nat) (dk : Array α) (os : Array Obj) {cur : Array Value} {e : TypeId} {fr : Nat × Nat} (h : w.heap[blk]? = some (.cells cur e fr)) :
    (sortWorldK enc k w blk off m dk os).heap[blk]? = some (.cells (Sort.putCells id off (Sort.flatK enc k dk) cur) e fr) := by
  unfold sortWorldK
  have hl : blk < w.heap.size := (Array.getElem?_eq_some_iff.1 h).1
  rw [Sort.heap_grow_old _ _ (by rw [Sort.size_putRowK]; exact hl)]
  show ((w.heap.modify blk (Sort.onCells (Sort.putCells id off (Sort.flatK enc k dk)))))[blk]? = _
  rw [Array.getElem?_modify, if_pos rfl, h]
  rfl
theorem sortW_stays {α : Type} [Inhabited α] (enc : α → List Value) (k : Nat) (w : World) (blk off m : Nat) (dk : Array α) (os : Array Obj) {S : Nat → Prop} (hS : ∀ b, S b → b ≠ blk) : Stays S w (sortWorldK enc k w blk off m dk os) :=
  ⟨size_sortWorldK_c enc k w blk off m dk os, fun p hp hl => World.cell?_of_block (sortW_block enc k w blk off m dk os (hS _ hp) hl)⟩
theorem isAgg_T : ∀ w, (isAgg (Tryd.sortT_ren.t 24)).run Tryd.prog w = .ok true w := fun _ => by kernel_rfl
theorem sizeOf_T : ∀ w, (Go.sizeOf (Tryd.sortT_ren.t 24)).run Tryd.prog w = .ok 4 w := fun _ => by kernel_rfl
theorem flat_els {S : Nat → Prop} {w : World} (d : Array (El S w)) : (Sort.flatK El.enc 4 d).toList = d.toList.flatMap El.enc := by
  apply List.ext_getElem?
  intro t
  by_cases h : t < d.size * 4
  · rw [els_at d.toList t (by rw [Array.length_toList]; exact h)]
    have h1 := Sort.get_flatK El.enc 4 d t h
    rw [getElem!_pos _ t (by rw [Sort.size_flatK]; exact h)] at h1
    rw [Array.getElem?_toList, Array.getElem?_eq_getElem (by rw [Sort.size_flatK]; exact h), h1]
    congr 3
    rw [List.getD_eq_getElem?_getD, Array.getElem?_toList, getElem!_def]
    cases d[t / 4]? <;> rfl
  · rw [List.getElem?_eq_none (by rw [Array.length_toList, Sort.size_flatK]; omega), List.getElem?_eq_none (by rw [els_len, Array.length_toList]; omega)]
/-- What lies in the row behind a sort. -/
theorem take_put (F : Array Value) (cur : Array Value) (h : F.size ≤ cur.size) : (Sort.putCells id 0 F cur).toList.take F.size = F.toList := by
  apply List.ext_getElem?
  intro t
  rw [List.getElem?_take]
  split
  · rename_i ht
    unfold Sort.putCells
    rw [Array.getElem?_toList, Array.getElem?_mapIdx, Array.getElem?_eq_getElem (by omega), Option.map_some, if_pos ⟨by omega, by omega⟩, Nat.sub_zero, getElem!_pos F t ht, Array.getElem?_toList, Array.getElem?_eq_getElem ht]
    rfl
  · rename_i ht
    rw [List.getElem?_eq_none (by rw [Array.length_toList]; omega)]
theorem sort_any (S : Nat → Prop) (ks : List Tm) (n g cap base : Nat) (cs : List Value) (w : World) (hn : ks.length = n) (hS : ∀ b, S b → b ≠ g) (hown : w.ownsRow base 26 4 (.slice (some ⟨g, 0, none⟩) n cap) n cs) (hq : Quads S w ks cs) (hlim : n ≤ 100000) :
    Calls Tryd.prog 45 #[.slice (some ⟨g, 0, none⟩) n cap, .func (.func 46) #[] #[]] w fun e w' => e = .returned (.tuple #[]) ∧ ∃ cs', Quads S w' (sortI ks) cs' ∧ w'.ownsRow base 26 4 (.slice (some ⟨g, 0, none⟩) n cap) n cs' ∧ w.grownBy w' (some g) := by
  subst hn
  obtain ⟨dl, hd1, hd2⟩ := hq.els
  have hdl : dl.length = ks.length := by rw [← hd1, List.length_map]
  have hcl := hq.len
  obtain ⟨g', cap', cur, e1, hbg, hg, hnc, hcm, hcs, htake⟩ : ∃ g' cap' cur, (Value.slice (some ⟨g, 0, none⟩) ks.length cap = .slice (some ⟨g', 0, none⟩) ks.length cap') ∧ base ≤ g' ∧ w.heap[g']? = some (.cells cur 26 (0, 0)) ∧ ks.length ≤ cap' ∧ cap' ≤ maxLen ∧ cur.size = cap' * 4 ∧ cur.toList.take (ks.length * 4) = cs := by
    rcases hown.2 with ⟨h, _⟩ | h
    · cases h
    · exact h
  cases e1
  have hgl : g < w.heap.size := (Array.getElem?_eq_some_iff.1 hg).1
  have hsz : dl.toArray.size = ks.length := by simpa using hdl
  have hH : Sort.HoldsK El.enc 4 w g 0 dl.toArray := by
    intro j hj
    rw [Sort.size_flatK, hsz] at hj
    refine ⟨?_, hown.frozenAt (0 + j)⟩
    have h1 : w.cell? ⟨g, 0 + j, none⟩ = cs[j]? := by rw [Nat.zero_add]; exact hown.cellAt j hj
    rw [h1, ← hd2]
    have h2 := congrArg (fun l => l[j]?) (flat_els dl.toArray)
    simp only at h2
    rw [Array.getElem?_toList, Array.getElem?_eq_getElem (by rw [Sort.size_flatK, hsz]; exact hj)] at h2
    show (dl.flatMap El.enc)[j]? = some (id (Sort.flatK El.enc 4 dl.toArray)[j]!)
    rw [getElem!_pos _ j (by rw [Sort.size_flatK, hsz]; exact hj)]
    exact h2.symm
  have hcmp : CmpLays Tryd.prog 46 #[] (El.enc (S := S) (w := w)) 4 cfT g 0 dl.toArray.size w := by
    intro m os dk hdk x y
    have hst := sortW_stays (El.enc (S := S) (w := w)) 4 w g 0 m dk os hS
    exact (order_d x.tm y.tm S S (.agg #[x.c0, x.c1, x.c2, x.c3]) (.agg #[y.c0, y.c1, y.c2, y.c3]) _ ⟨_, _, _, _, rfl, TmC.stays hst _ _ _ _ _ x.h⟩ ⟨_, _, _, _, rfl, TmC.stays hst _ _ _ _ _ y.h⟩).mono fun e w' h => ⟨h.1, grow_of_below h.2.1 h.2.2⟩
  have hcon := AnyQ.slices_SortFunc Tryd.sortT 4 isAgg_T sizeOf_T (El.enc (S := S) (w := w)) (fun _ => rfl) (fun x v hv => by
    obtain ⟨o0, o1, o2, o3⟩ := x.h.one
    simp only [El.enc, List.mem_cons, List.not_mem_nil, or_false] at hv
    rcases hv with rfl | rfl | rfl | rfl <;> assumption) cfT (swo_T S w) 46 #[] g 0 cap dl.toArray w (enters_of Tryd.func46 (by kernel_rfl) rfl) hcmp hH hgl (by rw [hsz]; omega)
  rw [hsz] at hcon
  refine hcon.mono ?_
  rintro e w' ⟨he, d', m, os, hp, hs, rfl⟩
  obtain ⟨hp1, _, hp3⟩ := hp
  rw [hsz] at hp1
  have ex : ∀ d : Array (El S w), d.size = ks.length → d.extract 0 ks.length = d := fun d h => by rw [← h]; simp
  rw [ex d' hp1, ex dl.toArray hsz] at hp3
  have hperm : (d'.toList.map El.tm).Perm ks := by rw [← hd1]; exact hp3.map El.tm
  have hsort : (d'.toList.map El.tm).Pairwise Le := by
    rw [List.pairwise_iff_getElem]
    intro i j hi hj hij
    simp only [List.length_map, Array.length_toList] at hi hj
    have h1 := hs i j (Nat.zero_le _) hij (by omega)
    rw [getElem!_pos d' i hi, getElem!_pos d' j hj] at h1
    unfold ltOf cfT at h1
    have h1 := of_decide_eq_false h1
    simp only [List.getElem_map, Array.getElem_toList]
    unfold Le
    rw [ordT_swap d'[j].tm]
    omega
  have huniq := sortI_uniq hsort hperm
  have hq' := els_quads d'.toList
  rw [huniq] at hq'
  have hst := sortW_stays (El.enc (S := S) (w := w)) 4 w g 0 m d' os hS
  refine ⟨he, d'.toList.flatMap El.enc, hq'.stays hst, ⟨by rw [els_len, Array.length_toList, hp1], .inr ⟨g, cap, _, rfl, hbg, sortW_at _ 4 w g 0 m d' os hg, hnc, hcm, ?_, ?_⟩⟩, ⟨rfl, rfl, rfl, hst.1, fun b hb hne => sortW_block _ 4 w g 0 m d' os (fun h => hne (by rw [h])) hb⟩⟩
  · unfold Sort.putCells; rw [Array.size_mapIdx]; exact hcs
  · have := take_put (Sort.flatK El.enc 4 d') cur (by rw [Sort.size_flatK, hp1, hcs]; exact Nat.mul_le_mul_right _ hnc)
    rw [Sort.size_flatK, hp1, flat_els] at this
    exact this
theorem sort_none (A : Option Addr) (cap : Nat) (w : World) : Calls Tryd.prog 45 #[.slice A 0 cap, .func (.func 46) #[] #[]] w fun e w' => e = .returned (.tuple #[]) ∧ w' = w :=
  AnyF.slices_SortFunc_none Tryd.sortT A cap _ w
end Go.Proofs.YtlnclgpbobaedaaDoor.tmc
