/- Two lists joined; a power by its kids' numbers: what derive calls. The powers of a vault by their kids' numbers: a map of the call's own; its look-up, its store, its range. A way more: the program's add. The ways to a power: the program's addPowers. -/
import Derived.Test.YtlhogjigdmpokaaGreatDoorFb
import Derived.Laws.CopyOwn
import Derived.Maps.RangeWalk
import Derived.Maps.OwnSet
import Derived.DeepKeys4
import Derived.WideKeyPair
import Derived.Test.YtlhogjigdmpokaaGreatDoorTf
import Derived.Deep.RegionLaw
namespace Go.Proofs.YtlhogjigdmpokaaGreatDoor.vtc
open Go.RowKit Go.Proofs.YtlhogjigdmpokaaGreatDoor.tlvc Go.Proofs.YtlhogjigdmpokaaGreatDoor.tmc
set_option linter.unusedVariables false
set_option maxRecDepth 100000 in
set_option maxHeartbeats 8000000 in
theorem concat_any (b : Nat) (A : Option Addr) (n c : Nat) (xs : List Int) (B : Option Addr) (m d : Nat) (ys : List Int) (w : World) (x0 : w.cell? ⟨b, 0, none⟩ = some (.slice A n c)) (x1 : w.cell? ⟨b, 1, none⟩ = some (.slice B m d)) (hx : Ins w A n xs) (hy : Ins w B m ys) (hnc : n ≤ c) (hcm : c ≤ 9223372036854775807) (hmd : m ≤ d) (hdm : d ≤ 9223372036854775807) (hn : n ≤ 10000) (hm : m ≤ 10000) :
    Calls Tryz.prog 54 #[.slice (some ⟨b, 0, none⟩) 2 2] w (InsPostF w (xs ++ ys)) := by
  obtain ⟨i0, hi, hz0, hz1, hz2⟩ := info_parts Tryz.infoInt
  have hG := grow_any (n + m) (by omega) w
  rw [show ((n + m : Nat) : Int) = (n : Int) + (m : Int) from by omega] at hG
  have HG := Lib.hid hG
  have HI := Lib.hid (And.intro hi (And.intro hz0 (And.intro hz1 hz2)))
  have HX := Lib.hid (And.intro hx hy)
  have hbl := block_lt_of_cell x0
  have HBL := Lib.hid (And.intro hbl (And.intro x0 x1))
  clear hG hi hz0 hz1 hz2 hx hy hbl
  go_enter Tryz.func54, Tryz.ntmps54
  go_wp2_with fail
  refine wp_loop_rounds 3 ?_; rw [rounds_succ]
  go_wp2_with fail
  rw [rounds_succ]
  go_wp2_with fail
  rw [rounds_succ]
  go_wp2_with fail
  refine HG.out.mono ?_
  rintro e w1 ⟨v, rfl, hown1, hb1⟩
  have y0 : w1.cell? ⟨b, 0, none⟩ = some (.slice A n c) := (hb1.cell (p := ⟨b, 0, none⟩) HBL.out.1).trans HBL.out.2.1
  have y1 : w1.cell? ⟨b, 1, none⟩ = some (.slice B m d) := (hb1.cell (p := ⟨b, 1, none⟩) HBL.out.1).trans HBL.out.2.2
  have H1 := Lib.hid (And.intro hown1 hb1)
  clear hown1 hb1 HG x0 x1
  go_wp2_with fail
  refine wp_loop_rounds 3 ?_; rw [rounds_succ]
  go_wp2_with (at_builtin; refine wpl_iapp rfl (.tmp 31) (.tmp 32) 23 rfl w.heap.size 3 i0 (.int .i64 0) Tryz.underlying23 HI.out.1 HI.out.2.1 HI.out.2.2.1 HI.out.2.2.2 rfl v 0 [] rfl H1.out.1 A n c xs rfl (HX.out.1.below H1.out.2) (by omega) H1.out.2.size ?_; intro v2 w2 hown2 hgr2 _; have hb2 := H1.out.2.grown hgr2 H1.out.2.size (fun j hj => (H1.out.1.lt j hj).1); have z1 : w2.cell? ⟨b, 1, none⟩ = some (.slice B m d) := (hb2.cell (p := ⟨b, 1, none⟩) HBL.out.1).trans HBL.out.2.2; have H2 := Lib.hid (And.intro hown2 hb2); clear hown2 hb2 hgr2)
  rw [rounds_succ]
  go_wp2_with (at_builtin; refine wpl_iapp rfl (.tmp 31) (.tmp 32) 23 rfl w.heap.size 3 i0 (.int .i64 0) Tryz.underlying23 HI.out.1 HI.out.2.1 HI.out.2.2.1 HI.out.2.2.2 rfl v2 _ _ rfl H2.out.1 B m d ys rfl (HX.out.2.below H2.out.2) (by omega) H2.out.2.size ?_; intro v3 w3 hown3 hgr3 _; have hb3 := H2.out.2.grown hgr3 H2.out.2.size (fun j hj => (H2.out.1.lt j hj).1); have H3 := Lib.hid (And.intro hown3 hb3); clear hown3 hb3 hgr3)
  rw [rounds_succ]
  go_wp2_with fail
  go_ret
  have hl : (xs ++ ys).length = 0 + n + m := by rw [List.length_append, HX.out.1.1, HX.out.2.1]; omega
  exact ins_post (by rw [hl, ivals_append, ← List.nil_append (ivals xs)]; exact H3.out.1) (HX.out.1.2.1.app HX.out.2.2.1) H3.out.2
/-- The numbers in their places. -/
def pkV (n : Nat) (xs : List Int) : Array Value := #[.int .i64 n, .int .i64 (xs.getD 0 0), .int .i64 (xs.getD 1 0), .int .i64 (xs.getD 2 0), .int .i64 (xs.getD 3 0)]
theorem wpl_copy4 {w : World} {ops : Array Oper} {rest : List Oper} {o : Oper} {a : Act} {Q : Exit → Act → World → Prop} (hgd : o.guard = none) (d s : Operand)
    (ho : o.op = .call { callee := .builtin .copy, args := #[d, s], argTypes := #[23, 23] }) (g : Nat) (A : Option Addr) (n c k : Nat) (xs : List Int) (hd : a.eval d = .slice (some ⟨g, 1, none⟩) 4 4) (hs : a.eval s = .slice A n c) (T : TypeId)
    (hg : w.heap[g]? = some (.cells (pkV k []) T (0, 0))) (hx : Ins w A n xs) (hn : n ≤ 4)
    (h : ∀ W2, W2.heap[g]? = some (.cells (pkV k xs) T (0, 0)) → Below g w W2 → wpList Tryz.prog ops Q rest (a.put o.dst (.int .i64 n)) W2) : wpList Tryz.prog ops Q (o :: rest) a w := by
  obtain ⟨hl, hf, hc⟩ := hx
  have hsz : (Tryz.prog.info? 3).map (·.size) = some 1 := by kernel_rfl
  by_cases h0 : n = 0
  · subst h0
    obtain rfl := List.eq_nil_of_length_eq_zero hl
    refine wpList_copy_nothing hgd d s 23 23 ho 3 Tryz.underlying23 hsz _ _ 4 4 0 c hd hs rfl ?_
    exact h w hg (Below.refl _ _)
  · obtain ⟨b, off, rfl, hb, hcell⟩ := hc (by omega)
    have key : ((pkV k []).toList.take 1 ++ (ivals xs ++ (pkV k []).toList.drop (1 + (ivals xs).length))).toArray = pkV k xs := by
      match xs, hl with
      | [], hl => exact absurd hl.symm h0
      | [p], _ => rfl
      | [p, q], _ => rfl
      | [p, q, r], _ => rfl
      | [p, q, r, t], _ => rfl
      | p :: q :: r :: t :: u :: l, hl => simp at hl; omega
    refine wpList_copy_own hgd d s 23 23 ho 3 Tryz.underlying23 hsz g 1 4 4 ⟨b, off, none⟩ n c hd hs (pkV k []) T hg (ivals xs) (by rw [ivals_length, hl]; exact (Nat.min_eq_left hn).symm) (fun j u hu => ?_) (by rw [ivals_length, hl]; show 1 + n ≤ 5; omega) (ivals_one xs) ?_
    · have hj := (List.getElem?_eq_some_iff.1 hu).1
      rw [ivals_length] at hj
      rw [Addr.add_lit, hcell j (by omega), ← hu]
      simp [ivals, List.getD_eq_getElem?_getD, List.getElem?_eq_getElem hj]
    · rw [key, show goInt (ivals xs).length = .int .i64 n from by rw [ivals_length, hl]; rfl]
      refine h _ (setRow_heap w g _ _ T _ hg) ?_
      exact below_setRow (Below.refl _ _) (Nat.le_refl _) _
theorem pk_cells {w : World} {g k : Nat} {xs : List Int} {T : TypeId} (h : w.heap[g]? = some (.cells (pkV k xs) T (0, 0))) : w.cell? ⟨g, 0, none⟩ = some (.int .i64 k) ∧ w.cell? ⟨g, 1, none⟩ = some (.int .i64 (xs.getD 0 0)) ∧ w.cell? ⟨g, 2, none⟩ = some (.int .i64 (xs.getD 1 0)) ∧ w.cell? ⟨g, 3, none⟩ = some (.int .i64 (xs.getD 2 0)) ∧ w.cell? ⟨g, 4, none⟩ = some (.int .i64 (xs.getD 3 0)) := by
  unfold pkV at h
  exact ⟨(Lib.cell_of_heap h _).trans rfl, (Lib.cell_of_heap h _).trans rfl, (Lib.cell_of_heap h _).trans rfl, (Lib.cell_of_heap h _).trans rfl, (Lib.cell_of_heap h _).trans rfl⟩
theorem set5_box {W : World} {g : Nat} {z0 z1 z2 z3 z4 : Value} {T : TypeId} (h : W.heap[g]? = some (.cells #[z0, z1, z2, z3, z4] T (0, 0))) (y0 y1 y2 y3 y4 : Value) : (((((W.setCell ⟨g, 0, none⟩ y0).setCell ⟨g, 1, none⟩ y1).setCell ⟨g, 2, none⟩ y2).setCell ⟨g, 3, none⟩ y3).setCell ⟨g, 4, none⟩ y4).heap[g]? = some (.cells #[y0, y1, y2, y3, y4] T (0, 0)) := by
  rw [set_heap _ _ _ _ _ _ _ (set_heap _ _ _ _ _ _ _ (set_heap _ _ _ _ _ _ _ (set_heap _ _ _ _ _ _ _ (set_heap _ _ _ _ _ _ _ h))))]
  rfl
theorem set5_below (W : World) (B g : Nat) (y0 y1 y2 y3 y4 : Value) (hB : B ≤ g) : Below B W (((((W.setCell ⟨g, 0, none⟩ y0).setCell ⟨g, 1, none⟩ y1).setCell ⟨g, 2, none⟩ y2).setCell ⟨g, 3, none⟩ y3).setCell ⟨g, 4, none⟩ y4) :=
  (((((Below.refl B W).setCell (p := ⟨g, 0, none⟩) hB _).setCell (p := ⟨g, 1, none⟩) hB _).setCell (p := ⟨g, 2, none⟩) hB _).setCell (p := ⟨g, 3, none⟩) hB _).setCell (p := ⟨g, 4, none⟩) hB _
set_option maxRecDepth 100000 in
set_option maxHeartbeats 8000000 in
theorem powerOf_any (A : Option Addr) (n c : Nat) (xs : List Int) (w : World) (hx : Ins w A n xs) (hnc : n ≤ c) (hcm : c ≤ 9223372036854775807) (hn : n ≤ 4) :
    Calls Tryz.prog 55 #[.slice A n c] w fun e w' => e = .returned (.agg (pkV n xs)) ∧ Below w.heap.size w w' := by
  have hb1 : Below w.heap.size w (w.alloc (.cells #[.int .i64 0, .int .i64 0, .int .i64 0, .int .i64 0, .int .i64 0] 95)) := below_new _ _
  have hp1 := heap_new_ w (.cells #[.int .i64 0, .int .i64 0, .int .i64 0, .int .i64 0, .int .i64 0] 95)
  obtain ⟨W1, hW1⟩ : ∃ x, w.alloc (.cells #[.int .i64 0, .int .i64 0, .int .i64 0, .int .i64 0, .int .i64 0] 95) = x := ⟨_, rfl⟩
  have hs1 : W1.heap.size = w.heap.size + 1 := by rw [← hW1]; exact World.size_alloc _ _
  rw [hW1] at hb1 hp1
  have hp2 : (W1.alloc (.cells #[.int .i64 n, .int .i64 0, .int .i64 0, .int .i64 0, .int .i64 0] 95)).heap[w.heap.size + 1]? = some (.cells (pkV n []) 95 (0, 0)) := by rw [← hs1]; exact heap_new_ _ _
  have hb2 := below_new W1 (.cells #[.int .i64 n, .int .i64 0, .int .i64 0, .int .i64 0, .int .i64 0] 95)
  have hall := hb1.trans (hb2.mono hb1.size)
  have hx2 := hx.below hall
  have hfin : ∀ W2, Below (w.heap.size + 1) (W1.alloc (.cells #[.int .i64 n, .int .i64 0, .int .i64 0, .int .i64 0, .int .i64 0] 95)) W2 → W2.heap[w.heap.size]? = some (.cells #[.int .i64 0, .int .i64 0, .int .i64 0, .int .i64 0, .int .i64 0] 95) ∧ Below w.heap.size w W2 := fun W2 h2 => ⟨(h2.block _ (by omega)).trans ((hb2.block _ (by omega)).trans hp1), hall.trans (h2.mono (by omega))⟩
  have HF := Lib.hid hfin
  have H2 := Lib.hid (And.intro hp2 hx2)
  rw [← hW1] at H2 HF
  clear hfin hp2 hx2 hall hb2 hb1 hp1 hx hW1 hs1 W1
  go_enter Tryz.func55, Tryz.ntmps55
  go_wp2_with (refine wpl_copy4 rfl (.tmp 8) (.tmp 9) rfl (w.heap.size + 1) A n c n xs rfl rfl 95 H2.out.1 H2.out.2 hn ?_; intro W2 h2 hb2; obtain ⟨p0, p1, p2, p3, p4⟩ := pk_cells h2; obtain ⟨hq, hbb⟩ := HF.out W2 hb2; have HB := Lib.hid hbb; have q0 := (Lib.cell_of_heap hq 0).trans rfl; have q1 := (Lib.cell_of_heap hq 1).trans rfl; have q2 := (Lib.cell_of_heap hq 2).trans rfl; have q3 := (Lib.cell_of_heap hq 3).trans rfl; have q4 := (Lib.cell_of_heap hq 4).trans rfl; have f0 := frozen_of_heap hq 0; have f1 := frozen_of_heap hq 1; have f2 := frozen_of_heap hq 2; have f3 := frozen_of_heap hq 3; have f4 := frozen_of_heap hq 4; have HQ := Lib.hid hq; clear h2 hb2 hq hbb)
  have hbx := set5_box HQ.out (.int .i64 n) (.int .i64 (xs.getD 0 0)) (.int .i64 (xs.getD 1 0)) (.int .i64 (xs.getD 2 0)) (.int .i64 (xs.getD 3 0))
  have hbw := HB.out.trans (set5_below W2 w.heap.size w.heap.size (.int .i64 n) (.int .i64 (xs.getD 0 0)) (.int .i64 (xs.getD 1 0)) (.int .i64 (xs.getD 2 0)) (.int .i64 (xs.getD 3 0)) (Nat.le_refl _))
  obtain ⟨W5, hW5⟩ : ∃ x, (((((W2.setCell ⟨w.heap.size, 0, none⟩ (.int .i64 n)).setCell ⟨w.heap.size, 1, none⟩ (.int .i64 (xs.getD 0 0))).setCell ⟨w.heap.size, 2, none⟩ (.int .i64 (xs.getD 1 0))).setCell ⟨w.heap.size, 3, none⟩ (.int .i64 (xs.getD 2 0))).setCell ⟨w.heap.size, 4, none⟩ (.int .i64 (xs.getD 3 0))) = x := ⟨_, rfl⟩
  rw [hW5] at hbx hbw
  simp only [List.getD_eq_getElem?_getD] at hW5
  rw [hW5]
  obtain ⟨r0, r1, r2, r3, r4⟩ := pk_cells hbx
  refine bodyPost_ret (v := .agg (pkV n xs)) ?_ rfl ⟨rfl, hbw⟩
  unfold pkV
  simp [results, Tryz.results55, go_sem, r0, r1, r2, r3, r4]
end Go.Proofs.YtlhogjigdmpokaaGreatDoor.vtc
namespace Go.Proofs.YtlhogjigdmpokaaGreatDoor.vtc
open Go.RowKit Go.Proofs.YtlhogjigdmpokaaGreatDoor.tlvc Go.Proofs.YtlhogjigdmpokaaGreatDoor.tmc
set_option linter.unusedVariables false
theorem Tryz.laidOut : laidOutB Tryz.prog = true := by kernel_rfl
theorem Tryz.rowPow : (95 : TypeId) < Tryz.prog.types.size := of_decide_eq_true (by kernel_rfl)
theorem Tryz.widePow : (match Tryz.prog.underlying 95 with | some (.array _ _) | some (.struct _) => true | _ => false) = true := by kernel_rfl
set_option maxRecDepth 100000 in
theorem Tryz.lawPow : Maps.Keyed Tryz.prog 95 := Maps.Keyed.of_law (deep_law_laid Tryz.laidOut (m := 3) (by omega) Tryz.rowPow (by kernel_rfl) Tryz.widePow)
theorem Tryz.keyPow : Tryz.prog.keyType 95 = true := by kernel_rfl
theorem Tryz.cellsPow : Tryz.prog.cellsOf 95 = 5 := by kernel_rfl
theorem Tryz.cellsArr : Tryz.prog.cellsOf 93 = 4 := by kernel_rfl
theorem Tryz.cellsInt : Tryz.prog.cellsOf 3 = 1 := by kernel_rfl
theorem Tryz.typesMany : ∃ m, Tryz.prog.types.size = m + 2 := ⟨Tryz.prog.types.size - 2, by
  have h : 2 ≤ Tryz.prog.types.size := of_decide_eq_true (by kernel_rfl)
  omega⟩
theorem lits_int (d : Nat) {x : Int} (h : (Lit.int .i64 x).wf = true) : Tryz.prog.keyLits (d + 1) 3 [.int .i64 x] = some [.int .i64 x] := by
  unfold Program.keyLits
  simp [Tryz.underlying3, h]
theorem lits_arr (d : Nat) {x1 x2 x3 x4 : Int} (h1 : (Lit.int .i64 x1).wf = true) (h2 : (Lit.int .i64 x2).wf = true) (h3 : (Lit.int .i64 x3).wf = true) (h4 : (Lit.int .i64 x4).wf = true) : Tryz.prog.keyLits (d + 2) 93 [.int .i64 x1, .int .i64 x2, .int .i64 x3, .int .i64 x4] = some [.int .i64 x1, .int .i64 x2, .int .i64 x3, .int .i64 x4] := by
  unfold Program.keyLits
  simp only [Tryz.underlying93]
  rw [if_pos (by rw [Tryz.cellsArr]; rfl), show List.range 4 = [0, 1, 2, 3] from rfl, List.mapM_cons, List.mapM_cons, List.mapM_cons, List.mapM_cons, List.mapM_nil, Tryz.cellsInt]
  simp [lits_int, h1, h2, h3, h4]
theorem lits_pow (d : Nat) {x0 x1 x2 x3 x4 : Int} (h0 : (Lit.int .i64 x0).wf = true) (h1 : (Lit.int .i64 x1).wf = true) (h2 : (Lit.int .i64 x2).wf = true) (h3 : (Lit.int .i64 x3).wf = true) (h4 : (Lit.int .i64 x4).wf = true) : Tryz.prog.keyLits (d + 3) 95 [.int .i64 x0, .int .i64 x1, .int .i64 x2, .int .i64 x3, .int .i64 x4] = some [.int .i64 x0, .int .i64 x1, .int .i64 x2, .int .i64 x3, .int .i64 x4] := by
  unfold Program.keyLits
  simp only [Tryz.underlying95]
  rw [if_pos (by rw [Tryz.cellsPow]; exact ⟨rfl, by simp⟩), List.mapM_cons, List.mapM_cons, List.mapM_nil]
  simp [lits_int, lits_arr, h0, h1, h2, h3, h4, Tryz.cellsInt, Tryz.cellsArr]
/-- What a power's key reads as. -/
def klP (l : List Int) : Lit := .string (keyBytes [.int .i64 l.length, .int .i64 (l.getD 0 0), .int .i64 (l.getD 1 0), .int .i64 (l.getD 2 0), .int .i64 (l.getD 3 0)])
theorem key_pk (l : List Int) (hf : Fit8 l) (hl : l.length ≤ 4) : keyOf Tryz.prog 95 (.agg (pkV l.length l)) = some (klP l) := by
  have wf : ∀ x : Int, -9223372036854775808 ≤ x ∧ x ≤ 9223372036854775807 → (Lit.int .i64 x).wf = true := fun x h => WalkArith.wf_i64 h
  obtain ⟨m, hm⟩ := Tryz.typesMany
  unfold keyOf klP pkV
  simp only [Tryz.underlying95]
  rw [if_pos (by simp [Tryz.keyPow, Value.formed, Tryz.underlying95, Tryz.cellsPow]), hm]
  show Option.map (fun ls => Lit.string (keyBytes ls)) (Tryz.prog.keyLits (m + 3) 95 [.int .i64 l.length, .int .i64 (l.getD 0 0), .int .i64 (l.getD 1 0), .int .i64 (l.getD 2 0), .int .i64 (l.getD 3 0)]) = _
  rw [lits_pow m (wf l.length (by omega)) (wf _ (hf.getD 0)) (wf _ (hf.getD 1)) (wf _ (hf.getD 2)) (wf _ (hf.getD 3))]
  rfl
theorem klP_inj {l l' : List Int} (hf : Fit8 l) (hl : l.length ≤ 4) (hf' : Fit8 l') (hl' : l'.length ≤ 4) (h : klP l = klP l') : l = l' := by
  have h1 := key_pk l hf hl
  have h2 := key_pk l' hf' hl'
  rw [← h] at h2
  have h3 := Tryz.lawPow.inj h1 h2
  unfold pkV at h3
  simp only [Value.agg.injEq, Array.mk.injEq, List.cons.injEq, Value.int.injEq, true_and, and_true] at h3
  obtain ⟨e, e0, e1, e2, e3⟩ := h3
  have el : l.length = l'.length := by omega
  refine List.ext_getElem el fun i hi hi' => ?_
  have g1 : l.getD i 0 = l[i] := by rw [List.getD_eq_getElem?_getD, List.getElem?_eq_getElem hi]; rfl
  have g2 : l'.getD i 0 = l'[i] := by rw [List.getD_eq_getElem?_getD, List.getElem?_eq_getElem hi']; rfl
  rw [← g1, ← g2]
  have hi4 : i = 0 ∨ i = 1 ∨ i = 2 ∨ i = 3 := by omega
  rcases hi4 with rfl | rfl | rfl | rfl
  · exact e0
  · exact e1
  · exact e2
  · exact e3
theorem klP_key (l : List Int) : WideAt.IsKeyLit (klP l) := by unfold klP; trivial
/-- The power of these, of a number below k. -/
def PwK (L : List Tm) (k : Nat) (l : List Int) (m : Nat) : Prop := m < k ∧ PwI L l m
theorem PwI.fits {L : List Tm} (T : Tbl L) {l : List Int} {m : Nat} (h : PwI L l m) : Fit8 l ∧ l.length ≤ 4 := by
  obtain ⟨mm, d, ks, e, rfl⟩ := h
  have c := T.kinds e
  refine ⟨kidsN_fit (by have := T.len; omega), ?_⟩
  rw [kidsN_len]
  omega
/-- The map has just these. -/
structure PMap {H : Type} (D : DataW H) (L : List Tm) (k : Nat) : Prop where
  map : Maps.IsMap D
  has : ∀ l m, PwK L k l m → Maps.has D (klP l) = true ∧ ∀ z, D.atKey (klP l) z = .lit (.int .i64 m)
  only : ∀ key, Maps.has D key = true → ∃ l m, PwK L k l m ∧ key = klP l
theorem PMap.start {H : Type} (L : List Tm) : PMap (H := H) (.map []) L 0 := ⟨Maps.isMap_empty, fun l m h => absurd h.1 (Nat.not_lt_zero _), fun k h => by simp [Maps.has] at h⟩
theorem PMap.skip {H : Type} {D : DataW H} {L : List Tm} {k : Nat} (h : PMap D L k) (hk : ∀ l, ¬ PwI L l k) : PMap D L (k + 1) :=
  ⟨h.map, fun l m hm => h.has l m ⟨by
    have h1 := hm.1
    rcases Nat.lt_or_ge m k with h2 | h2
    · exact h2
    · obtain rfl : m = k := by omega
      exact absurd hm.2 (hk l), hm.2⟩, fun key hh => by
    obtain ⟨l, m, h1, h2⟩ := h.only key hh
    exact ⟨l, m, ⟨by have := h1.1; omega, h1.2⟩, h2⟩⟩
theorem PMap.put {H : Type} {D : DataW H} {L : List Tm} {k : Nat} (h : PMap D L k) (T : Tbl L) {l : List Int} (hk : PwI L l k) : PMap (D.put (klP l) (.lit (.int .i64 k))) L (k + 1) := by
  have hl := hk.fits T
  refine ⟨h.map.put _ _, fun l' m hm => ?_, fun key hh => ?_⟩
  · by_cases e : m = k
    · subst e
      have el : l' = l := by
        obtain ⟨a, d, ks, e1, e2⟩ := hm.2
        obtain ⟨a', d', ks', e3, e4⟩ := hk
        rw [e1] at e3
        cases e3
        rw [← e2, ← e4]
      subst el
      exact ⟨Maps.has_put_same h.map (klP_key _) _, fun z => Maps.atKey_put_same h.map (klP_key _) _ z⟩
    · have hm' : PwK L k l' m := ⟨by have := hm.1; omega, hm.2⟩
      have hne : klP l' ≠ klP l := fun e2 => by
        have hl' := hm.2.fits T
        obtain rfl := klP_inj hl'.1 hl'.2 hl.1 hl.2 e2
        exact e (PwI.one T hm.2 hk)
      obtain ⟨h1, h2⟩ := h.has l' m hm'
      exact ⟨by rw [Maps.has_put_other hne]; exact h1, fun z => by rw [Maps.atKey_put_other hne]; exact h2 z⟩
  · by_cases e : key = klP l
    · exact ⟨l, k, ⟨Nat.lt_succ_self _, hk⟩, e⟩
    · rw [Maps.has_put_other e] at hh
      obtain ⟨l', m, h1, h2⟩ := h.only key hh
      exact ⟨l', m, ⟨by have := h1.1; omega, h1.2⟩, h2⟩
/-- What a look-up answers. -/
theorem PMap.look {D : DataW Unit} {L : List Tm} {k n mb : Nat} {w : World} (h : PMap D L k) (T : Tbl L) (hown : w.ownsMap Tryz.prog 95 (plainElem Tryz.prog 3) mb n D) (l : List Int) (hf : Fit8 l) (hl : l.length ≤ 4) :
    (∃ m, PwK L k l m ∧ (Instr.lookup 86 (.map (some mb)) (.agg (pkV l.length l)) true).run Tryz.prog w = .ok (.tuple #[.int .i64 (m : Nat), .bool true]) w) ∨ ((∀ m, ¬ PwK L k l m) ∧ (Instr.lookup 86 (.map (some mb)) (.agg (pkV l.length l)) true).run Tryz.prog w = .ok (.tuple #[.int .i64 0, .bool false]) w) := by
  obtain ⟨v, ps, hrun, hv⟩ := hown.look_ok Tryz.lawPow Tryz.underlying86 (zero_int w) (zd := .lit (.int .i64 0)) (zp := []) (plainElem_int Tryz.underlying3 (by decide)) (key_pk l hf hl)
  obtain ⟨x, rfl, hx, _⟩ := plainElem_int_inv Tryz.underlying3 hv
  rw [hrun]
  cases hh : Maps.has D (klP l) with
  | true =>
    obtain ⟨l', m, h1, h2⟩ := h.only _ hh
    have hl' := h1.2.fits T
    obtain rfl := klP_inj hf hl hl'.1 hl'.2 h2
    refine .inl ⟨m, h1, ?_⟩
    rw [(h.has l m h1).2] at hx
    simp at hx
    rw [← hx.1]
  | false =>
    refine .inr ⟨fun m hm => (by have := (h.has l m hm).1; rw [hh] at this; cases this), ?_⟩
    rw [atKey_none h.map hh] at hx
    simp at hx
    rw [← hx.1]
end Go.Proofs.YtlhogjigdmpokaaGreatDoor.vtc
namespace Go.Proofs.YtlhogjigdmpokaaGreatDoor.vtc
open Go.RowKit Go.Proofs.YtlhogjigdmpokaaGreatDoor.tlvc Go.Proofs.YtlhogjigdmpokaaGreatDoor.tmc
set_option linter.unusedVariables false
theorem lack_all {td : List Bool} (h : ∀ n, td.getD n false = false) (w : Way) : lackW td w = w.needs.length := by
  unfold lackW
  rw [List.countP_eq_length]
  intro m _
  rw [h]; rfl
theorem off_drew {S : Nat → Prop} {w w' : World} (h : Off S w.drew w') : Off S w w' := ⟨h.os, h.tape, h.output, h.size, h.block⟩
/-- The lists of ways while a new one comes in. -/
def rowsK (RJ : Nat → List Nat) (needs : List Int) (new k : Nat) (i : Nat) : List Nat := RJ i ++ List.replicate ((needs.take k).count (i : Int)) new
theorem rowsK_zero (RJ : Nat → List Nat) (needs : List Int) (new : Nat) : rowsK RJ needs new 0 = RJ := by
  funext i
  unfold rowsK
  rw [List.take_zero]
  exact List.append_nil _
theorem rowsK_step {RJ : Nat → List Nat} {needs : List Int} {new k i : Nat} (h : needs[k]? = some (i : Int)) : (fun j => if j = i then rowsK RJ needs new k i ++ [new] else rowsK RJ needs new k j) = rowsK RJ needs new (k + 1) := by
  obtain ⟨hk, he⟩ := List.getElem?_eq_some_iff.1 h
  funext j
  unfold rowsK
  rw [List.take_succ_eq_append_getElem hk, List.count_append, he]
  by_cases e : j = i
  · subst e
    rw [if_pos rfl, List.append_assoc]
    congr 1
    rw [show List.count (j : Int) [(j : Int)] = 1 from by simp, List.replicate_succ']
  · rw [if_neg e, show List.count (j : Int) [(i : Int)] = 0 from List.count_eq_zero.2 (by simp; omega)]
    rfl
def AddPost (n0 : Nat) (K : Nat → Tag) (sb hb tb rb : Nat) (hd td : List Bool) (RJ : Nat → List Nat) (PS : List Plc) (way : Way) (w : World) (e : Ending) (w' : World) : Prop :=
  ∃ (K' : Nat → Tag) (PS' : List Plc) (RJ' : Nat → List Nat) (hd' : List Bool), e = .returned (.tuple #[]) ∧ Sch n0 K' w' sb hb tb rb hd' td (lkT td (PS'.map Plc.way)) RJ' PS' ∧ WOk hd.length RJ' PS' ∧ hd'.length = hd.length ∧ PS'.length ≤ PS.length + 1 ∧
    (∀ AP, Adds hd.length AP (PS.map Plc.way) hd → Adds hd.length (fun v => AP v ∨ v = way) (PS'.map Plc.way) hd') ∧ (∀ g, g < w.heap.size → K g = .other → K' g = .other) ∧ Off (fun g => K g ≠ .other) w w'
set_option maxRecDepth 100000 in
set_option maxHeartbeats 8000000 in
theorem add_any {n0 : Nat} {K : Nat → Tag} {w : World} {sb hb tb rb : Nat} {hd td : List Bool} {RJ : Nat → List Nat} {PS : List Plc} (h : Sch n0 K w sb hb tb rb hd td (lkT td (PS.map Plc.way)) RJ PS) (hn0 : n0 ≤ w.heap.size) (hW : WOk hd.length RJ PS) (hPS : PS.length < 100000) (htd : ∀ n, td.getD n false = false)
    (A : Option Addr) (n c : Nat) (B : Option Addr) (m d : Nat) (needs gives : List Int) (hx : Ins w A n needs) (hnc : n ≤ c) (hcm : c ≤ maxLen) (hA : 0 < n → ∀ g off, A = some ⟨g, off, none⟩ → K g = .other) (hy : Ins w B m gives) (hmd : m ≤ d) (hdm : d ≤ maxLen) (hB : 0 < m → ∀ g off, B = some ⟨g, off, none⟩ → K g = .other)
    (hpos : ∀ x ∈ needs, 0 ≤ x ∧ x < (hd.length : Int)) (hfew : n ≤ 10000) :
    Calls Tryz.prog 53 #[.pointer (some ⟨sb, 0, none⟩), .slice A n c, .slice B m d] w (AddPost n0 K sb hb tb rb hd td RJ PS ⟨needs, gives⟩ w) := by
  have h9 : c ≤ 9223372036854775807 := by unfold maxLen at hcm; omega
  have hln := hx.1
  have hlm := hy.1
  by_cases hn : n = 0
  · subst hn
    have hnil : needs = [] := List.eq_nil_of_length_eq_zero hln
    subst hnil
    have HC := Lib.hid (have_any h B m d gives hy hmd hdm hB)
    have HF := Lib.hid (And.intro h.had (And.intro hW h.len))
    clear h hx hy hW hpos hA hB hln hlm hdm hcm
    go_enter Tryz.func53, Tryz.ntmps53
    go_wp2_with (go_at_call 30; refine HC.out.mono ?_; rintro e w4 ⟨rfl, hS4, hO4⟩; have HQ := Lib.hid (And.intro hS4 hO4); clear hS4 hO4 HC)
    refine bodyPost_ret (results_none rfl _ _ _) rfl ?_
    exact ⟨K, PS, RJ, haveF hd gives, rfl, HQ.out.1, HF.out.2.1, have_len _ _, Nat.le_succ _, fun AP hAP => hAP.now rfl gives, fun _ _ h => h, HQ.out.2.mono fun g _ e => by rw [e]; simp⟩
  · have hnz : ((n : Int) == 0) = false := by rw [beq_eq_false_iff_ne]; omega
    have hnew := h.newStep hn0 ⟨needs, gives⟩ B d n (by rw [hlm]; exact hy) (by rw [hlm]; exact hmd) hdm (fun hp => hB (by rw [← hlm]; exact hp)) (by omega)
    rw [show (⟨needs, gives⟩ : Way).gives.length = m from hlm] at hnew
    have hb1 : Below w.heap.size w (w.alloc (.cells #[.int .i64 (n : Nat), .slice B m d] 101)) := below_new _ _
    obtain ⟨K1, hK1⟩ : ∃ x, (fun g => if g = w.heap.size then Tag.stp PS.length else K g) = x := ⟨_, rfl⟩
    rw [hK1] at hnew
    have hKK : ∀ g, g < w.heap.size → K g = .other → K1 g = .other := fun g hg e => by rw [← hK1]; show (if g = w.heap.size then _ else _) = _; rw [if_neg (by omega)]; exact e
    have hnew2 := hnew.lks (lk' := lkT td ((PS ++ [(⟨⟨needs, gives⟩, w.heap.size, B, d⟩ : Plc)]).map Plc.way)) (fun j hj => by
      rw [List.map_append]
      rw [List.length_append, List.length_singleton] at hj
      by_cases e : j = PS.length
      · subst e
        rw [if_pos rfl]
        unfold lkT
        rw [List.getElem?_append_right (by rw [List.length_map]; exact Nat.le_refl _), List.length_map, Nat.sub_self]
        exact (lack_all htd _).trans hln
      · rw [if_neg e]
        unfold lkT
        rw [List.getElem?_append_left (by rw [List.length_map]; omega)])
    obtain ⟨PS1, hPS1⟩ : ∃ x, PS ++ [(⟨⟨needs, gives⟩, w.heap.size, B, d⟩ : Plc)] = x := ⟨_, rfl⟩
    rw [hPS1] at hnew2
    have hP1 : PS1[PS.length]? = some ⟨⟨needs, gives⟩, w.heap.size, B, d⟩ := by rw [← hPS1, List.getElem?_append_right (Nat.le_refl _), Nat.sub_self]; rfl
    have hPl : PS1.length = PS.length + 1 := by rw [← hPS1, List.length_append]; rfl
    have HD := Lib.hid (And.intro hx (And.intro hA (And.intro hpos (And.intro hln (And.intro hW (And.intro hPS1 (And.intro hP1 (And.intro hPl (And.intro (h.rj) hn0)))))))))
    have HS0 := Lib.hid (And.intro hnew2 (And.intro hKK hb1))
    clear h hx hy hW hpos hA hB hln hlm hdm hcm hnew hnew2 hK1 hPS1 hP1 hPl hKK hb1
    go_enter Tryz.func53, Tryz.ntmps53
    go_wp2_with fail
    obtain ⟨W1, hW1⟩ : ∃ x, w.alloc (.cells #[.int .i64 (n : Nat), .slice B m d] 101) = x := ⟨_, rfl⟩
    rw [hW1] at HS0 ⊢
    clear hW1
    go_loopg [22] (n + 1) (fun gk s22 wx => ∃ (k : Nat) (Kx : Nat → Tag), s22 = .int .i64 k ∧ k ≤ n ∧ n - k < gk ∧ Hid ((∀ g, g < w.heap.size → K g = .other → Kx g = .other) ∧ Sch n0 Kx wx sb hb tb rb hd td (lkT td (PS1.map Plc.way)) (rowsK RJ needs PS.length k) PS1 ∧ Off (fun g => K g ≠ .other) w wx))
    case atStart => exact ⟨0, K1, rfl, by omega, by omega, Lib.hid ⟨HS0.out.2.1, by rw [rowsK_zero]; exact HS0.out.1, Off.of_below HS0.out.2.2⟩⟩
    case round =>
      obtain ⟨k, Kx, rfl, hk, hgk, HR⟩ := hrel
      by_cases hlt : k < n
      · have hltz : (k : Int) < (n : Int) := by omega
        obtain ⟨gk', rfl⟩ : ∃ g', gk = g' + 1 := ⟨gk - 1, by omega⟩
        have HN := Lib.hid (And.intro (show k + 1 ≤ n from hlt) (show n - (k + 1) < gk' by omega))
        have hIns : Ins wr A n needs := ins_block HD.out.1 HR.out.2.2.size fun hn g off e => by
          obtain ⟨o, ho, _⟩ := ins_cells HD.out.1 hn e
          exact HR.out.2.2.block g (Array.getElem?_eq_some_iff.1 ho).1 (fun e2 => e2 (HD.out.2.1 hn g off e))
        obtain ⟨b, off, rfl, hb1, hc⟩ := hIns.2.2 (by omega)
        have x0 := hc k hlt
        have hkl : k < needs.length := by rw [HD.out.2.2.2.1]; exact hlt
        have hmem : needs.getD k 0 ∈ needs := by rw [List.getD_eq_getElem?_getD, List.getElem?_eq_getElem hkl]; exact List.getElem_mem hkl
        have hxb := HD.out.2.2.1 _ hmem
        obtain ⟨i, hi⟩ : ∃ i : Nat, needs.getD k 0 = (i : Int) := ⟨(needs.getD k 0).toNat, by omega⟩
        rw [hi] at x0 hxb
        have hki : needs[k]? = some (i : Int) := by rw [List.getElem?_eq_getElem hkl, ← hi, List.getD_eq_getElem?_getD, List.getElem?_eq_getElem hkl]; rfl
        have hiN : i < hd.length := by omega
        obtain ⟨rv, hrow, hrv⟩ := HR.out.2.1.tab
        obtain ⟨hown, hrk⟩ := hrv i hiN
        have hrl : (rowsK RJ needs PS.length k i).length + 1 ≤ 10000 * PS1.length := by
          unfold rowsK
          rw [List.length_append, List.length_replicate, HD.out.2.2.2.2.2.2.2.1]
          have h1 := (HD.out.2.2.2.2.2.2.2.2.1 i).2
          have h2 := List.count_le_length (a := (i : Int)) (l := needs.take k)
          rw [List.length_take] at h2
          omega
        obtain ⟨v', w2, hrun, hown2, hgr, hob⟩ := app_ptr wr.drew (rv i) _ _ hown (some ⟨w.heap.size, 0, none⟩) (by have := HD.out.2.2.2.2.2.2.2.1; omega)
        obtain ⟨K2, hK2, hS2, hO2⟩ := (HR.out.2.1.below ((Below.refl _ _).drew)).addRow (w := wr.drew) (Nat.le_trans HD.out.2.2.2.2.2.2.2.2.2 HR.out.2.2.size) hiN HD.out.2.2.2.2.2.2.1 hrl hrow hrv hown2 hgr hob
        obtain ⟨Ar, cr, hre, hrlc, hrcm, _⟩ := own_shape hown
        obtain ⟨Av, cv, rfl, hvlc, hvcm, _⟩ := own_shape hown2
        rw [hre] at hrun
        have r0 := hrow.cell hiN
        have f0 := hrow.frozen i
        rw [hre] at r0
        obtain ⟨_, _, c2⟩ := HR.out.2.1.cells3
        have hrbne : some rb ≠ (rv i).ownBlock := fun e => by
          have h1 := hrk rb e.symm
          have h2 := HR.out.2.1.ktab
          rw [h1] at h2
          cases h2
        have hsbne : some sb ≠ (rv i).ownBlock := fun e => by
          have h1 := hrk sb e.symm
          have h2 := HR.out.2.1.kh
          rw [h1] at h2
          cases h2
        have hal : Below wr.heap.size wr (wr.drew.alloc (.cells #[.pointer (some ⟨w.heap.size, 0, none⟩)] 99)) := ((Below.refl _ _).drew).trans (below_new wr.drew _)
        have hblk : ∀ g, g < wr.heap.size → some g ≠ (rv i).ownBlock → w2.heap[g]? = wr.heap[g]? := fun g hg hne => (hgr.block g (by rw [World.size_alloc]; exact Nat.lt_succ_of_lt hg) hne).trans (hal.block g hg)
        have hrl0 := hrow.lt
        have hsl0 : sb < wr.heap.size := HR.out.2.1.lt (by rw [HR.out.2.1.kh]; simp)
        have r2 : w2.cell? ⟨rb, i, none⟩ = some (.slice Ar (rowsK RJ needs PS.length k i).length cr) := (cell_same (p := ⟨rb, i, none⟩) (hblk rb hrl0 hrbne)).trans r0
        have f2 : w2.frozen? ⟨rb, i, none⟩ = false := (World.frozen?_of_block (a := ⟨rb, i, none⟩) (hblk rb hrl0 hrbne)).trans f0
        have s2 : w2.cell? ⟨sb, 2, none⟩ = some (.slice (some ⟨rb, 0, none⟩) hd.length hd.length) := (cell_same (p := ⟨sb, 2, none⟩) (hblk sb hsl0 hsbne)).trans c2
        have r1 : (wr.alloc (.cells #[.pointer (some ⟨w.heap.size, 0, none⟩)] 99)).cell? ⟨rb, i, none⟩ = some (.slice Ar (rowsK RJ needs PS.length k i).length cr) := (hal.cell (p := ⟨rb, i, none⟩) hrl0).trans r0
        have s1 : (wr.alloc (.cells #[.pointer (some ⟨w.heap.size, 0, none⟩)] 99)).cell? ⟨sb, 2, none⟩ = some (.slice (some ⟨rb, 0, none⟩) hd.length hd.length) := (hal.cell (p := ⟨sb, 2, none⟩) hsl0).trans c2
        obtain ⟨lr, hlr⟩ : ∃ l, (rowsK RJ needs PS.length k i).length = l := ⟨_, rfl⟩
        rw [hlr] at r0 r1 r2 hrun hS2 hO2
        obtain ⟨N, hN⟩ : ∃ N, hd.length = N := ⟨_, rfl⟩
        rw [hN] at c2 s1 s2 hiN
        have hiz : (i : Int) < (N : Int) := by omega
        have hcr9 : cr ≤ 9223372036854775807 := by unfold maxLen at hrcm; omega
        have hsm := HR.out.2.1.small
        rw [hN] at hsm
        have HG := Lib.hid (And.intro hki (And.intro hK2 (And.intro hS2 hO2)))
        clear hc hIns hkl hmem hxb hi hki hown hrk hrow hrv hrl hown2 hgr hob hK2 hS2 hO2 hre hrlc hvlc hvcm hrbne hsbne hal hblk hrl0 hsl0 hgk hlr hN hrcm
        go_wp2_with fail
        go_region_law (first | (refine step_run rfl (.tmp 37) (.tmp 39) 98 rfl _ _ _ (by simp [Act.eval]) (by simp [Act.eval]) hrun ?_))
        all_goals
          clear hrun r0 r1 r2 f0 f2 c2 s1 s2 x0
          go_wp2
          go_roundg gk'
          case measure => omega
          case rel => exact ⟨k + 1, K2, by go_num, HN.out.1, HN.out.2, Lib.hid ⟨fun g hg e => HG.out.2.1 g (Nat.lt_of_lt_of_le hg HR.out.2.2.size) (HR.out.1 g hg e), by rw [← rowsK_step HG.out.1]; exact HG.out.2.2.1, Off.trans (S' := fun g => Kx g ≠ .other) HR.out.2.2 (off_drew HG.out.2.2.2) (fun _ _ h => h) (fun g hg hne e => hne (HR.out.1 g hg e))⟩⟩
      · obtain rfl : n = k := by omega
        have hltz : ¬ (n : Int) < (n : Int) := by omega
        clear hgk
        go_wp2
        refine bodyPost_ret (results_none rfl _ _ _) rfl ?_
        have htk : needs.take n = needs := List.take_of_length_le (by rw [HD.out.2.2.2.1]; exact Nat.le_refl _)
        have hway : PS1.map Plc.way = PS.map Plc.way ++ [⟨needs, gives⟩] := by rw [← HD.out.2.2.2.2.2.1, List.map_append]; rfl
        refine ⟨Kx, PS1, rowsK RJ needs PS.length n, hd, rfl, HR.out.2.1, ⟨?_, ?_, ?_, ?_⟩, rfl, by rw [HD.out.2.2.2.2.2.2.2.1]; exact Nat.le_refl _, fun AP hAP => by rw [hway]; exact hAP.later _, HR.out.1, HR.out.2.2⟩
        · have hm := HD.out.2.2.2.2.1.rows.more ⟨needs, gives⟩
          rw [← hway, List.length_map] at hm
          have e : rowsK RJ needs PS.length n = fun i => RJ i ++ List.replicate ((⟨needs, gives⟩ : Way).needs.count (i : Int)) PS.length := by
            funext i
            unfold rowsK
            rw [htk]
          rw [e]
          exact hm
        · intro v hv
          rw [hway] at hv
          rcases List.mem_append.1 hv with hv | hv
          · exact HD.out.2.2.2.2.1.pos v hv
          · rw [List.mem_singleton.1 hv]
            exact HD.out.2.2.1
        · intro v hv
          rw [hway] at hv
          rcases List.mem_append.1 hv with hv | hv
          · exact HD.out.2.2.2.2.1.few v hv
          · rw [List.mem_singleton.1 hv]
            show needs.length ≤ 10000
            rw [HD.out.2.2.2.1]
            exact hfew
        · intro v hv
          rw [hway] at hv
          rcases List.mem_append.1 hv with hv | hv
          · exact HD.out.2.2.2.2.1.full v hv
          · rw [List.mem_singleton.1 hv]
            show needs ≠ []
            intro e
            have hl := HD.out.2.2.2.1
            rw [e] at hl
            exact hn hl.symm
end Go.Proofs.YtlhogjigdmpokaaGreatDoor.vtc
namespace Go.Proofs.YtlhogjigdmpokaaGreatDoor.vtc
open Go.RowKit Go.Proofs.YtlhogjigdmpokaaGreatDoor.tlvc Go.Proofs.YtlhogjigdmpokaaGreatDoor.tmc
set_option linter.unusedVariables false
/-- A search has grown by some ways. -/
structure Grew (n0 sb hb tb rb : Nat) (td : List Bool) (N : Nat) (K : Nat → Tag) (PS : List Plc) (hd : List Bool) (AQ : Way → Prop) (c : Nat) (w w' : World) (K' : Nat → Tag) (PS' : List Plc) (RJ' : Nat → List Nat) (hd' : List Bool) : Prop where
  sch : Sch n0 K' w' sb hb tb rb hd' td (lkT td (PS'.map Plc.way)) RJ' PS'
  ok : WOk N RJ' PS'
  len : hd'.length = N
  cnt : PS'.length ≤ PS.length + c
  adds : ∀ AP, Adds N AP (PS.map Plc.way) hd → Adds N (fun v => AP v ∨ AQ v) (PS'.map Plc.way) hd'
  tag : ∀ g, g < w.heap.size → K g = .other → K' g = .other
  off : Off (fun g => K g ≠ .other) w w'
section
variable {n0 sb hb tb rb : Nat} {td : List Bool} {N : Nat} {K : Nat → Tag} {PS : List Plc} {hd : List Bool} {AQ AQ' : Way → Prop} {c : Nat} {w w' w2 : World} {K' : Nat → Tag} {PS' : List Plc} {RJ RJ' : Nat → List Nat} {hd' : List Bool}
theorem Grew.start (h : Sch n0 K w sb hb tb rb hd td (lkT td (PS.map Plc.way)) RJ PS) (ho : WOk N RJ PS) (hl : hd.length = N) : Grew n0 sb hb tb rb td N K PS hd (fun _ => False) 0 w w K PS RJ hd :=
  ⟨h, ho, hl, Nat.le_refl _, fun AP h => h.same fun v => (or_false _).to_iff.symm, fun _ _ h => h, Off.refl _ _⟩
theorem Grew.below (h : Grew n0 sb hb tb rb td N K PS hd AQ c w w' K' PS' RJ' hd') (hb1 : Below w'.heap.size w' w2) : Grew n0 sb hb tb rb td N K PS hd AQ c w w2 K' PS' RJ' hd' :=
  ⟨h.sch.below hb1, h.ok, h.len, h.cnt, h.adds, h.tag, Off.trans (S' := fun _ => False) h.off (Off.of_below hb1) (fun _ _ h => h) (fun _ _ h => h.elim)⟩
theorem Grew.same (h : Grew n0 sb hb tb rb td N K PS hd AQ c w w' K' PS' RJ' hd') (e : ∀ v, AQ v ↔ AQ' v) : Grew n0 sb hb tb rb td N K PS hd AQ' c w w' K' PS' RJ' hd' := by
  have : AQ = AQ' := funext fun v => propext (e v)
  exact this ▸ h
theorem Grew.more (h : Grew n0 sb hb tb rb td N K PS hd AQ c w w' K' PS' RJ' hd') {c' : Nat} (e : c ≤ c') : Grew n0 sb hb tb rb td N K PS hd AQ c' w w' K' PS' RJ' hd' :=
  ⟨h.sch, h.ok, h.len, Nat.le_trans h.cnt (by omega), h.adds, h.tag, h.off⟩
theorem Grew.add (h : Grew n0 sb hb tb rb td N K PS hd AQ c w w' K' PS' RJ' hd') {way : Way} {e : Ending} (hp : AddPost n0 K' sb hb tb rb hd' td RJ' PS' way w' e w2) : e = .returned (.tuple #[]) ∧ ∃ K2 PS2 RJ2 hd2, Grew n0 sb hb tb rb td N K PS hd (fun v => AQ v ∨ v = way) (c + 1) w w2 K2 PS2 RJ2 hd2 := by
  obtain ⟨K2, PS2, RJ2, hd2, rfl, h1, h2, h3, h4, h5, h6, h7⟩ := hp
  have hl := h.len
  refine ⟨rfl, K2, PS2, RJ2, hd2, h1, hl ▸ h2, h3.trans hl, by have := h.cnt; omega, fun AP hAP => ?_, fun g hg e => h6 g (Nat.lt_of_lt_of_le hg h.off.size) (h.tag g hg e), Off.trans h.off h7 (fun _ _ h => h) (fun g hg hne e => hne (h.tag g hg e))⟩
  have := h5 (fun v => AP v ∨ AQ v) (by rw [hl]; exact h.adds AP hAP)
  rw [hl] at this
  exact this.same fun v => or_assoc
theorem Grew.trans (h : Grew n0 sb hb tb rb td N K PS hd AQ c w w' K' PS' RJ' hd') {AR : Way → Prop} {c2 : Nat} {K2 : Nat → Tag} {PS2 : List Plc} {RJ2 : Nat → List Nat} {hd2 : List Bool} (k : Grew n0 sb hb tb rb td N K' PS' hd' AR c2 w' w2 K2 PS2 RJ2 hd2) : Grew n0 sb hb tb rb td N K PS hd (fun v => AQ v ∨ AR v) (c + c2) w w2 K2 PS2 RJ2 hd2 :=
  ⟨k.sch, k.ok, k.len, by have := h.cnt; have := k.cnt; omega, fun AP hAP => (k.adds _ (h.adds AP hAP)).same fun v => or_assoc, fun g hg e => k.tag g (Nat.lt_of_lt_of_le hg h.off.size) (h.tag g hg e), Off.trans h.off k.off (fun _ _ h => h) (fun g hg hne e => hne (h.tag g hg e))⟩
end
/-- Two lists of the call's own. -/
structure Two (w0 w : World) (v9 v10 : Value) (xs ys : List Int) : Prop where
  o1 : w.ownsRow w0.heap.size 3 1 v9 xs.length (ivals xs)
  o2 : w.ownsRow w0.heap.size 3 1 v10 ys.length (ivals ys)
  ne : ∀ g, v9.ownBlock = some g → v10.ownBlock ≠ some g
  bel : Below w0.heap.size w0 w
  fit : Fit8 xs ∧ Fit8 ys
theorem Two.start (w : World) : Two w w (.slice none 0 0) (.slice none 0 0) [] [] := ⟨World.ownsRow_nil _ _ _ _, World.ownsRow_nil _ _ _ _, (fun g e => by cases e), Below.refl _ _, (fun x hx => by simp at hx), (fun x hx => by simp at hx)⟩
theorem Two.left {w0 w : World} {v9 v10 : Value} {xs ys : List Int} (h : Two w0 w v9 v10 xs ys) (x : Int) (hx : I64 x) (hl : xs.length ≤ 10) : ∃ v' w', (Builtin.append_ #[23, 23] 23 #[v9, .slice (some ⟨w.heap.size, 0, none⟩) 1 1]).run Tryz.prog (w.alloc (.cells #[.int .i64 x] 3)) = .ok v' w' ∧ Two w0 w' v' v10 (xs ++ [x]) ys := by
  obtain ⟨v', w', h1, h2, h3, h4⟩ := app_int w w0.heap.size v9 _ _ h.o1 x hx (by omega) h.bel.size
  have o2a := own_below h.o2 (below_new w (.cells #[.int .i64 x] 3))
  refine ⟨v', w', h1, by rw [List.length_append, ivals_append]; exact h2, own_same o2a fun g hg => ?_, fun g hg => ?_, h.bel.trans (app_int_below h.o1 h.bel.size h3), h.fit.1.app (fun y hy => by rw [List.mem_singleton.1 hy]; exact hx), h.fit.2⟩
  · exact h3.block g (o2a.lt g hg).2 fun e => h.ne g e.symm hg
  · rcases h4 with h5 | ⟨g', h5, h6⟩
    · rw [h5] at hg; exact h.ne g hg
    · rw [h5] at hg
      cases hg
      intro e
      have := (h.o2.lt _ e).2
      omega
theorem Two.right {w0 w : World} {v9 v10 : Value} {xs ys : List Int} (h : Two w0 w v9 v10 xs ys) (x : Int) (hx : I64 x) (hl : ys.length ≤ 10) : ∃ v' w', (Builtin.append_ #[23, 23] 23 #[v10, .slice (some ⟨w.heap.size, 0, none⟩) 1 1]).run Tryz.prog (w.alloc (.cells #[.int .i64 x] 3)) = .ok v' w' ∧ Two w0 w' v9 v' xs (ys ++ [x]) := by
  obtain ⟨v', w', h1, h2⟩ := (show Two w0 w v10 v9 ys xs from ⟨h.o2, h.o1, fun g hg e => h.ne g e hg, h.bel, h.fit.2, h.fit.1⟩).left x hx hl
  exact ⟨v', w', h1, h2.o2, h2.o1, fun g hg e => h2.ne g e hg, h2.bel, h2.fit.2, h2.fit.1⟩
theorem pick_bit : ∀ (k : Fin 16) (i : Fin 4), bits .and .i64 ((k.val : Int) / 2 ^ i.val) 1 = ((k.val / 2 ^ i.val % 2 : Nat) : Int) := by decide +kernel
theorem pow_len {len : Nat} (h : len ≤ 4) : wrap64 ((2 : Int) ^ len) = ((2 ^ len : Nat) : Int) ∧ 2 ^ len ≤ 16 := by
  have h4 : len = 0 ∨ len = 1 ∨ len = 2 ∨ len = 3 ∨ len = 4 := by omega
  rcases h4 with rfl | rfl | rfl | rfl | rfl <;> exact ⟨by decide +kernel, by decide⟩
theorem pow_ways {L : List Tm} (T : Tbl L) {n : Nat} {mm : Int} {d : List Int} {ks : List Tm} (hn : L[n]? = some (.mk 7 mm d ks)) {k : Nat} (hk : k < 2 ^ ks.length) (v : Way) :
    ((∀ m, ¬ PwI L (selF k (kidsN L ks)) m) → ((∃ c, c < k + 1 ∧ PowW L n c v) ↔ ∃ c, c < k ∧ PowW L n c v)) ∧ ∀ m, PwI L (selF k (kidsN L ks)) m → ((∃ c, c < k + 1 ∧ PowW L n c v) ↔ (∃ c, c < k ∧ PowW L n c v) ∨ v = ⟨unF k (kidsN L ks) ++ [(m : Int)], [(n : Int)]⟩) := by
  refine ⟨fun hno => ⟨fun ⟨c, hc, hp⟩ => ?_, fun ⟨c, hc, hp⟩ => ⟨c, by omega, hp⟩⟩, fun m hm => ⟨fun ⟨c, hc, hp⟩ => ?_, fun h => ?_⟩⟩
  · rcases Nat.lt_or_ge c k with h | h
    · exact ⟨c, h, hp⟩
    · obtain rfl : c = k := by omega
      obtain ⟨_, _, ks', m, e, _, hm, _⟩ := hp
      rw [hn] at e
      cases e
      exact absurd hm (hno m)
  · rcases Nat.lt_or_ge c k with h | h
    · exact .inl ⟨c, h, hp⟩
    · obtain rfl : c = k := by omega
      obtain ⟨_, _, ks', m', e, _, hm', rfl⟩ := hp
      rw [hn] at e
      cases e
      rw [PwI.one T hm hm']
      exact .inr rfl
  · rcases h with ⟨c, hc, hp⟩ | rfl
    · exact ⟨c, by omega, hp⟩
    · exact ⟨k, Nat.lt_succ_self _, mm, d, ks, m, hn, hk, hm, rfl⟩
set_option maxRecDepth 100000 in
set_option maxHeartbeats 16000000 in
theorem addPowers_any {n0 : Nat} {K : Nat → Tag} {w : World} {sb hb tb rb : Nat} {hd td : List Bool} {RJ : Nat → List Nat} {PS : List Plc} {L : List Tm} (T : Tbl L) (h : Sch n0 K w sb hb tb rb hd td (lkT td (PS.map Plc.way)) RJ PS) (hn0 : n0 ≤ w.heap.size) (hW : WOk L.length RJ PS) (hN : hd.length = L.length) (hPS : PS.length + 16 < 100000) (htd : ∀ n, td.getD n false = false)
    (mb cnt : Nat) (D : DataW Unit) (hD : PMap D L L.length) (hown : w.ownsMap Tryz.prog 95 (plainElem Tryz.prog 3) mb cnt D) (hKm : K mb = .other)
    (n : Nat) (mm : Int) (d : List Int) (ks : List Tm) (hn : L[n]? = some (.mk 7 mm d ks)) (A : Option Addr) (len c : Nat) (hx : Ins w A len (kidsN L ks)) (hnc : len ≤ c) (hcm : c ≤ 9223372036854775807) (hA : 0 < len → ∀ g off, A = some ⟨g, off, none⟩ → K g = .other) :
    Calls Tryz.prog 56 #[.pointer (some ⟨sb, 0, none⟩), .map (some mb), .int .i64 n, .slice A len c] w fun e w' => e = .returned (.tuple #[]) ∧ ∃ K' PS' RJ' hd', Grew n0 sb hb tb rb td L.length K PS hd (fun v => ∃ c, PowW L n c v) 16 w w' K' PS' RJ' hd' := by
  have hkl : ks.length = len := by rw [← kidsN_len L ks]; exact hx.1
  have hlen4 : len ≤ 4 := by have := T.kinds hn; omega
  obtain ⟨hp, hq16⟩ := pow_len hlen4
  obtain ⟨q, hq⟩ : ∃ q, 2 ^ len = q := ⟨_, rfl⟩
  rw [hq] at hp hq16
  have hnl := (List.getElem?_eq_some_iff.1 hn).1
  have hn96 := T.len
  have hml := hown.lt
  have HQ := Lib.hid (And.intro hq (And.intro hkl hn))
  have HT := Lib.hid (And.intro T (And.intro hn0 (And.intro htd (And.intro hPS hN))))
  have HM := Lib.hid (And.intro hD (And.intro hown (And.intro hKm hml)))
  have HX := Lib.hid (And.intro hx hA)
  have HG0 := Lib.hid (Grew.start h hW hN)
  clear hq hkl T hn0 htd hPS hD hown hKm hml hx hA h hW hn
  go_enter Tryz.func56, Tryz.ntmps56
  go_wp2_with fail
  rw [hp]
  clear hp
  go_loopg [18] 17 (fun gk s18 wx => ∃ (k : Nat) (K' : Nat → Tag) (PS' : List Plc) (RJ' : Nat → List Nat) (hd' : List Bool), s18 = .int .i64 k ∧ k ≤ q ∧ q - k < gk ∧ Hid (Grew n0 sb hb tb rb td L.length K PS hd (fun v => ∃ c, c < k ∧ PowW L n c v) k w wx K' PS' RJ' hd'))
  case atStart => exact ⟨0, K, PS, RJ, hd, rfl, by omega, by omega, Lib.hid (HG0.out.same fun v => ⟨fun h => h.elim, fun ⟨c, hc, _⟩ => absurd hc (Nat.not_lt_zero _)⟩)⟩
  case round =>
    obtain ⟨k, Kx, PSx, RJx, hdx, rfl, hk, hgk, HG⟩ := hrel
    obtain ⟨wo, hwo⟩ : ∃ x, x = wr := ⟨_, rfl⟩
    subst hwo
    by_cases hlt : k < q
    · have hltz : (k : Int) < (q : Int) := by omega
      obtain ⟨gk', rfl⟩ : ∃ g', gk = g' + 1 := ⟨gk - 1, by omega⟩
      have HN := Lib.hid (And.intro (show k + 1 ≤ q from hlt) (show q - (k + 1) < gk' by omega))
      obtain ⟨l, hl⟩ : ∃ l, kidsN L ks = l := ⟨_, rfl⟩
      have hIns : Ins wo A len l := by
        rw [← hl]
        refine ins_block HX.out.1 HG.out.off.size fun hn g off e => ?_
        obtain ⟨o, ho, _⟩ := ins_cells HX.out.1 hn e
        exact HG.out.off.block g (Array.getElem?_eq_some_iff.1 ho).1 (fun e2 => e2 (HX.out.2 hn g off e))
      have HI := Lib.hid hIns
      have HLL := Lib.hid hl
      have hk16 : k < 16 := by omega
      clear hIns hl hgk
      go_wp2_with fail
      go_loopg [9, 10, 23] (len + 1) (fun gk s9 s10 s23 wx => ∃ (i : Nat) (v9 v10 : Value), s9 = v9 ∧ s10 = v10 ∧ s23 = .int .i64 i ∧ i ≤ len ∧ len - i < gk ∧ Hid (Two wo wx v9 v10 (selF k (l.take i)) (unF k (l.take i))))
      case atStart => exact ⟨0, _, _, rfl, rfl, rfl, by omega, by omega, Lib.hid (by rw [List.take_zero]; exact Two.start _)⟩
      case round =>
        obtain ⟨i, v9, v10, h9, h10, rfl, hi, hgj, H2⟩ := hrel
        obtain rfl := h9.symm
        obtain rfl := h10.symm
        by_cases hlt2 : i < len
        · have hltz2 : (i : Int) < (len : Int) := by omega
          obtain ⟨gj', rfl⟩ : ∃ g', gk = g' + 1 := ⟨gk - 1, by omega⟩
          have HN2 := Lib.hid (And.intro (show i + 1 ≤ len from hlt2) (show len - (i + 1) < gj' by omega))
          have hIx := HI.out.below H2.out.bel
          obtain ⟨b, off, rfl, hb1, hc⟩ := hIx.2.2 (by omega)
          have x0 := hc i hlt2
          obtain ⟨x, hxx⟩ : ∃ x, l.getD i 0 = x := ⟨_, rfl⟩
          have hxf : I64 x := by rw [← hxx]; exact hIx.2.1.getD i
          rw [hxx] at x0
          have hil : i < l.length := by rw [hIx.1]; exact hlt2
          have htk : l.take (i + 1) = l.take i ++ [x] := by
            rw [List.take_succ_eq_append_getElem hil, ← hxx, List.getD_eq_getElem?_getD, List.getElem?_eq_getElem hil]
            rfl
          have hli : (l.take i).length = i := by rw [List.length_take]; omega
          have hs := sel_snoc x (l.take i) k
          have hu := un_snoc x (l.take i) k
          rw [← htk, hli] at hs hu
          have hsl := sel_len (l.take i) k
          rw [hli] at hsl
          have hi4 : i < 4 := by omega
          have hbit : bits .and .i64 ((k : Int) / 2 ^ i) 1 = ((k / 2 ^ i % 2 : Nat) : Int) := pick_bit ⟨k, hk16⟩ ⟨i, hi4⟩
          have hk30 : (0 : Int) ≤ (k : Int) := by omega
          have hk31 : (k : Int) ≤ 16 := by omega
          have hi30 : (0 : Int) ≤ (i : Int) := by omega
          have hi31 : (i : Int) ≤ 3 := by omega
          by_cases h1 : k / 2 ^ i % 2 = 1
          · rw [h1] at hbit
            rw [if_pos h1] at hs hu
            rw [List.append_nil] at hu
            have hb2 : bits .and .i64 ((k : Int) / 2 ^ i) 1 = 1 := hbit
            obtain ⟨v', w', hrun, hT⟩ := H2.out.left x hxf (by omega)
            rw [← hs, ← hu] at hT
            have HT2 := Lib.hid hT
            clear hc hIx hxf hil htk hli hs hu hsl hbit hT h1 hxx hgj hb1
            go_wp2_with (at_builtin; refine wpl_append rfl (.tmp 33) (.tmp 35) 23 rfl _ _ _ rfl rfl hrun ?_)
            clear hrun x0
            go_wp2
            go_roundg gj'
            case measure => omega
            case rel => exact ⟨i + 1, v', v10, rfl, rfl, by go_num, HN2.out.1, HN2.out.2, HT2⟩
          · have h0 : k / 2 ^ i % 2 = 0 := by omega
            rw [h0] at hbit
            rw [if_neg h1] at hs hu
            rw [List.append_nil] at hs
            have hb2 : bits .and .i64 ((k : Int) / 2 ^ i) 1 = 0 := hbit
            obtain ⟨v', w', hrun, hT⟩ := H2.out.right x hxf (by omega)
            rw [← hs, ← hu] at hT
            have HT2 := Lib.hid hT
            clear hc hIx hxf hil htk hli hs hu hsl hbit hT h1 hxx hgj hb1 h0
            go_wp2_with (at_builtin; refine wpl_append rfl (.tmp 37) (.tmp 39) 23 rfl _ _ _ rfl rfl hrun ?_)
            clear hrun x0
            go_wp2
            go_roundg gj'
            case measure => omega
            case rel => exact ⟨i + 1, v9, v', rfl, rfl, by go_num, HN2.out.1, HN2.out.2, HT2⟩
        · obtain rfl : len = i := by omega
          have hltz2 : ¬ (len : Int) < (len : Int) := by omega
          have htk : l.take len = l := List.take_of_length_le (by rw [HI.out.1]; exact Nat.le_refl _)
          have h2 := H2.out
          rw [htk] at h2
          have hk2 : k < 2 ^ ks.length := by rw [HQ.out.2.1, HQ.out.1]; exact hlt
          have hways := fun v => pow_ways HT.out.1 HQ.out.2.2 hk2 v
          rw [HLL.out] at hways
          have hsl := sel_len l k
          rw [HI.out.1] at hsl
          have hun : ∀ x ∈ unF k l, 0 ≤ x ∧ x < (n : Int) := fun x hx => kN_lt HT.out.1 HQ.out.2.2 (by rw [HLL.out]; exact un_mem hx)
          obtain ⟨xs, hxs⟩ : ∃ x, selF k l = x := ⟨_, rfl⟩
          obtain ⟨ys, hys⟩ : ∃ x, unF k l = x := ⟨_, rfl⟩
          rw [hxs] at h2 hways hsl
          rw [hys] at h2 hways hsl hun
          obtain ⟨A9, c9, rfl, hlc9, hcm9, _⟩ := own_shape h2.o1
          have hI9 := Ins.own h2.o1 h2.fit.1
          have HC1 := Lib.hid (powerOf_any A9 xs.length c9 xs wr hI9 hlc9 (by unfold maxLen at hcm9; omega) (by omega))
          have hmap : ∀ w1, Below wr.heap.size wr w1 → w1.ownsMap Tryz.prog 95 (plainElem Tryz.prog 3) mb cnt D := fun w1 hb1 => map_same HM.out.2.1 ((hb1.block mb (Nat.lt_of_lt_of_le HM.out.2.2.2 (Nat.le_trans HG.out.off.size h2.bel.size))).trans ((h2.bel.block mb (Nat.lt_of_lt_of_le HM.out.2.2.2 HG.out.off.size)).trans (HG.out.off.block mb HM.out.2.2.2 (fun e => e HM.out.2.2.1))))
          have hlook := fun w1 hb1 => HM.out.1.look HT.out.1 (hmap w1 hb1) xs h2.fit.1 (by omega)
          have HW2 := Lib.hid (And.intro h2 hways)
          have HHN := Lib.hid hun
          by_cases hpw : ∃ m, PwI L xs m
          · obtain ⟨m, hm⟩ := hpw
            have hml2 : m < L.length := by
              obtain ⟨_, _, _, e, _⟩ := hm
              exact (List.getElem?_eq_some_iff.1 e).1
            have hlk : ∀ w1, Below wr.heap.size wr w1 → (Instr.lookup 86 (.map (some mb)) (.agg (pkV xs.length xs)) true).run Tryz.prog w1 = .ok (.tuple #[.int .i64 (m : Nat), .bool true]) w1 := fun w1 hb1 => by
              rcases hlook w1 hb1 with ⟨m', h3, h4⟩ | ⟨h3, _⟩
              · rw [PwI.one HT.out.1 hm h3.2]; exact h4
              · exact absurd ⟨hml2, hm⟩ (h3 m)
            have hap : ∀ w1, Below wr.heap.size wr w1 → ∃ v' w2, (Builtin.append_ #[23, 23] 23 #[v10, .slice (some ⟨w1.heap.size, 0, none⟩) 1 1]).run Tryz.prog (w1.alloc (.cells #[.int .i64 m] 3)) = .ok v' w2 ∧ w2.ownsRow wo.heap.size 3 1 v' (ys ++ [(m : Int)]).length (ivals (ys ++ [(m : Int)])) ∧ Below wo.heap.size wo w2 := fun w1 hb1 => by
              have ho := own_below h2.o2 hb1
              have hsz := Nat.le_trans h2.bel.size hb1.size
              obtain ⟨v', w2, e1, e2, e3, _⟩ := app_int w1 wo.heap.size v10 _ _ ho m (by unfold I64; omega) (by omega) hsz
              exact ⟨v', w2, e1, by rw [List.length_append, ivals_append]; exact e2, (h2.bel.trans (hb1.mono h2.bel.size)).trans (app_int_below ho hsz e3)⟩
            have hadd : ∀ (w2 : World) (Av : Option Addr) (cv : Nat), w2.ownsRow wo.heap.size 3 1 (.slice Av (ys ++ [(m : Int)]).length cv) (ys ++ [(m : Int)]).length (ivals (ys ++ [(m : Int)])) → Below wo.heap.size wo w2 → Calls Tryz.prog 53 #[.pointer (some ⟨sb, 0, none⟩), .slice Av (ys ++ [(m : Int)]).length cv, .slice (some ⟨w2.heap.size, 0, none⟩) 1 1] (w2.alloc (.cells #[.int .i64 n] 3)) (fun e w' => e = .returned (.tuple #[]) ∧ ∃ K2 PS2 RJ2 hd2, Grew n0 sb hb tb rb td L.length K PS hd (fun v => (∃ c, c < k ∧ PowW L n c v) ∨ v = ⟨ys ++ [(m : Int)], [(n : Int)]⟩) (k + 1) w w' K2 PS2 RJ2 hd2) := fun w2 Av cv ho2 hb2 => by
              have hnew := below_new w2 (.cells #[.int .i64 (n : Int)] 3)
              have hq2 := heap_new_ w2 (.cells #[.int .i64 (n : Int)] 3)
              have hall := hb2.trans (hnew.mono hb2.size)
              have hG3 := HG.out.below hall
              obtain ⟨_, _, e, q1, q2, q3⟩ := own_shape ho2
              cases e
              have hfit : Fit8 (ys ++ [(m : Int)]) := h2.fit.2.app (fun y hy => by rw [List.mem_singleton.1 hy]; omega)
              have hfar : ∀ g, wo.heap.size ≤ g → Kx g = .other := fun g hg => HG.out.sch.far g hg
              have hl := HG.out.len
              refine (add_any hG3.sch (Nat.le_trans (Nat.le_trans HT.out.2.1 HG.out.off.size) hall.size) (by rw [hl]; exact hG3.ok) (by have := HG.out.cnt; have := HT.out.2.2.2.1; omega) HT.out.2.2.1 Av (ys ++ [(m : Int)]).length cv (some ⟨w2.heap.size, 0, none⟩) 1 1 (ys ++ [(m : Int)]) [(n : Int)] ((Ins.own ho2 hfit).below hnew) q1 q2 (fun hp g off e => ?_) ⟨rfl, fun y hy => by rw [List.mem_singleton.1 hy]; omega, fun _ => ⟨w2.heap.size, 0, rfl, (Array.getElem?_eq_some_iff.1 hq2).1, fun j hj => ?_⟩⟩ (Nat.le_refl _) (by unfold maxLen; omega) (fun _ g off e => ?_) (fun x hx => ?_) (by rw [List.length_append]; simp; omega)).mono fun e w' hp => ?_
              · obtain ⟨g', e', hg', _⟩ := q3 0 hp
                rw [e'] at e
                cases e
                exact hfar g hg'
              · obtain rfl : j = 0 := by omega
                rw [Nat.zero_add, Lib.cell_of_heap hq2]
                rfl
              · cases e
                exact hfar _ hb2.size
              · rw [hl]
                rcases List.mem_append.1 hx with hx | hx
                · have := hun x hx; omega
                · rw [List.mem_singleton.1 hx]; omega
              · exact hG3.add hp
            have hmw := fun v => (hways v).2 m hm
            have hnE : (ys ++ [(m : Int)]) = ys ++ [(m : Int)] := rfl
            obtain ⟨zs, hzs⟩ : ∃ z, ys ++ [(m : Int)] = z := ⟨_, rfl⟩
            rw [hzs] at hap hadd hmw
            have HMW := Lib.hid hmw
            have HLK := Lib.hid hlk
            have HAP := Lib.hid hap
            have HAD := Lib.hid hadd
            clear hnE hmw hzs hlk hap hadd hlook hmap hways h2 hI9 hun hxs hys hlc9 hcm9 hk2 H2 htk hgj
            go_wp2_with (first | (at_builtin; refine wpl_append rfl (.tmp 51) (.tmp 53) 23 rfl _ _ _ rfl rfl hrun ?_) | (go_at_call 55; refine HC1.out.mono ?_; rintro e w1 ⟨rfl, hb1⟩; have hlk := HLK.out w1 hb1; obtain ⟨v', w2, hrun, ho2, hb2⟩ := HAP.out w1 hb1; obtain ⟨Av, cv, rfl, _⟩ := own_shape ho2; have HA2 := Lib.hid (HAD.out w2 Av cv ho2 hb2); clear ho2 hb1 hb2) | (go_at_call 53; refine HA2.out.mono ?_; rintro e w4 ⟨rfl, hg4⟩; have HG4 := Lib.hid hg4; clear hg4))
            clear hrun hlk HA2 HAD HAP HLK HC1
            go_wp2
            go_roundg gk'
            case measure => omega
            case rel =>
              obtain ⟨K2, PS2, RJ2, hd2, hg⟩ := HG4.out
              exact ⟨k + 1, K2, PS2, RJ2, hd2, by go_num, HN.out.1, HN.out.2, Lib.hid (hg.same fun v => (HMW.out v).symm)⟩
          · have hno : ∀ m, ¬ PwI L xs m := fun m hm => hpw ⟨m, hm⟩
            have hlk : ∀ w1, Below wr.heap.size wr w1 → (Instr.lookup 86 (.map (some mb)) (.agg (pkV xs.length xs)) true).run Tryz.prog w1 = .ok (.tuple #[.int .i64 0, .bool false]) w1 := fun w1 hb1 => by
              rcases hlook w1 hb1 with ⟨m', h3, _⟩ | ⟨_, h4⟩
              · exact absurd h3.2 (hno m')
              · exact h4
            have HLK := Lib.hid hlk
            clear hlk hlook hmap hways h2 hI9 hun hxs hys hlc9 hcm9 hk2 H2 htk hgj hpw
            go_wp2_with (go_at_call 55; refine HC1.out.mono ?_; rintro e w1 ⟨rfl, hb1⟩; have hlk := HLK.out w1 hb1; have HB1 := Lib.hid hb1; clear hb1)
            clear hlk HLK HC1
            go_roundg gk'
            case measure => omega
            case rel => exact ⟨k + 1, Kx, PSx, RJx, hdx, by go_num, HN.out.1, HN.out.2, Lib.hid (((HG.out.below (HW2.out.1.bel.trans (HB1.out.mono HW2.out.1.bel.size))).more (Nat.le_succ k)).same fun v => ((HW2.out.2 v).1 hno).symm)⟩
    · obtain rfl : q = k := by omega
      have hltz : ¬ (q : Int) < (q : Int) := by omega
      clear hgk
      go_wp2
      refine bodyPost_end (results_none rfl _ _ _) rfl ?_
      refine ⟨rfl, Kx, PSx, RJx, hdx, (HG.out.more hq16).same fun v => ⟨fun ⟨c, _, hp⟩ => ⟨c, hp⟩, fun ⟨c, hp⟩ => ⟨c, ?_, hp⟩⟩⟩
      obtain ⟨_, _, ks', m, e, hc, _⟩ := hp
      rw [HQ.out.2.2] at e
      cases e
      rw [HQ.out.2.1, HQ.out.1] at hc
      exact hc
end Go.Proofs.YtlhogjigdmpokaaGreatDoor.vtc
