/- The search reads a vault: all the ways of its terms. -/
import Derived.Test.YtlhogjigdmpokaaGreatDoorFd
namespace Go.Proofs.YtlhogjigdmpokaaGreatDoor.vtc
open Go.RowKit Go.Proofs.YtlhogjigdmpokaaGreatDoor.tlvc Go.Proofs.YtlhogjigdmpokaaGreatDoor.tmc Go.Proofs.YtlhogjigdmpokaaGreatDoor.rfc
set_option linter.unusedVariables false
attribute [local go_sem] Oper.semAt_some

set_option maxRecDepth 100000 in
set_option maxHeartbeats 16000000 in
theorem read_any {S : Nat → Prop} {vb mb0 : Nat} {ob : Option Nat} {L : List Tm} (w : World) (hV : Vlt S w vb mb0 ob L) (ht : txc.Tab w.heap.size w) (hsz : ∀ t ∈ L, szT t ≤ 10000) (T : Tbl L) :
    Calls Tryz.prog 29 #[.pointer (some ⟨vb, 0, none⟩)] w fun e w' => ∃ sb hb tb rb K PS RJ hd, e = .returned (.pointer (some ⟨sb, 0, none⟩)) ∧ Sch w.heap.size K w' sb hb tb rb hd (List.replicate L.length false) (lkT (List.replicate L.length false) (PS.map Plc.way)) RJ PS ∧ WOk L.length RJ PS ∧ hd.length = L.length ∧ PS.length ≤ 90000 ∧ Adds L.length (AllW L) (PS.map Plc.way) hd ∧ Below w.heap.size w w' := by
  obtain ⟨N, hN⟩ : ∃ N, L.length = N := ⟨_, rfl⟩
  obtain ⟨Av, cv, y0, _⟩ := hV.cells
  rw [hN] at y0
  have HY0 := Lib.hid y0
  have hN4 : N ≤ 4096 := by rw [← hN]; exact T.len
  have mk1 : ∀ W : World, (Instr.makeSlice 69 (.int .i64 (N : Int)) (.int .i64 (N : Int))).run Tryz.prog W = .ok (.slice (some ⟨W.heap.size, 0, none⟩) N N) (W.alloc (.cells (madeCells #[.bool false] N) 4)) := fun W => run_make_row' 69 4 (.bool false) 1 Tryz.underlying69 Tryz.infoBool rfl .i64 .i64 N (by omega) (by omega) W
  have mk2 : ∀ W : World, (Instr.makeSlice 70 (.int .i64 (N : Int)) (.int .i64 (N : Int))).run Tryz.prog W = .ok (.slice (some ⟨W.heap.size, 0, none⟩) N N) (W.alloc (.cells (madeCells #[.slice none 0 0] N) 98)) := fun W => run_make_row' 70 98 (.slice none 0 0) 24 Tryz.underlying70 Tryz.infoSteps rfl .i64 .i64 N (by omega) (by omega) W
  have hS0 : ((w.alloc (.cells #[.pointer (some ⟨vb, 0, none⟩)] 26)).cell? ⟨w.heap.size, 0, none⟩ = some (.pointer (some ⟨vb, 0, none⟩)) ∧ (w.alloc (.cells #[.pointer (some ⟨vb, 0, none⟩)] 26)).cell? ⟨vb, 0, none⟩ = some (.slice Av N cv)) := ⟨(Lib.cell_of_heap (heap_new_ w _) _).trans rfl, ((below_new w _).cell (p := ⟨vb, 0, none⟩) (block_lt_of_cell y0)).trans y0⟩
  have HV := Lib.hid (And.intro hV (And.intro ht (And.intro hsz (And.intro T hN))))
  clear hV ht hsz T hN y0
  refine (callsIn_wide (n := 9)).1 (callsIn_of_wp_marks Tryz.func29 rfl trivial (wpIn_wide.2 ?_))
  simp only [Tryz.ntmps29, List.size_toArray, List.length_cons, List.length_nil, Nat.reduceAdd, Nat.reduceSub, Array.replicate_succ, Array.replicate_zero, List.push_toArray, List.append_toArray, List.nil_append, List.cons_append]
  go_upto_region 1 with fail
  go_cut [3] from 11 to 21 (fun s3 wx => ∃ Bs, s3 = .pointer (some ⟨Bs, 0, none⟩) ∧ Hid (∃ sb hb tb rb, Made5 w vb N Bs sb hb tb rb wx))
  case first =>
    have HMK := Lib.hid (And.intro mk1 mk2)
    have HS0 := Lib.hid hS0
    have hNz : (0 : Int) ≤ (N : Int) := by omega
    have b1w := heap_new_ w (.cells #[.pointer (some ⟨vb, 0, none⟩)] 26)
    have below1 := below_new w (.cells #[.pointer (some ⟨vb, 0, none⟩)] 26)
    have mixed : Tryz.prog.follows Departure.mixedOrders = true := by kernel_rfl
    have hvbl : vb < w.heap.size := by
      by_cases e : vb < w.heap.size
      · exact e
      · exact absurd (block_lt_of_cell (HV.out.1.cells.choose_spec.choose_spec.1)) e
    clear mk1 mk2 hS0
    try dsimp only
    refine wp_region_inv (fun ls a W => ∃ u : Nat → Value, a = { tmps := #[.pointer (some ⟨vb, 0, none⟩), .pointer (some ⟨w.heap.size, 0, none⟩), .pointer none, u 3, undef, undef, undef, undef, undef, undef, undef, u 11, u 12, u 13, u 14, u 15, u 16, u 17, u 18, u 19, u 20, u 21, undef, undef, undef, undef, undef, undef, undef, undef, undef, undef, undef, undef, undef, undef, undef, undef, undef, undef, undef, undef, undef, undef, undef, undef, undef, undef, undef, undef, undef, undef, undef, undef, undef, undef, undef, undef, undef, undef, undef, undef, undef, undef, undef, undef, undef, undef, undef, undef, undef, undef, undef, undef, undef, undef, undef, undef, undef, undef], defers := [] } ∧ XqI w vb N ls u W) mixed ?_ ?_ ?_
    · refine ⟨fun _ => undef, rfl, ⟨by rfl, b1w, below1.drew, fun _ j hj h => ?_, fun _ h => ?_, fun h => ?_⟩⟩
      · exfalso
        revert h
        rcases (show j = 0 ∨ j = 1 ∨ j = 2 ∨ j = 3 ∨ j = 4 ∨ j = 5 ∨ j = 6 ∨ j = 7 ∨ j = 8 ∨ j = 9 ∨ j = 10 ∨ j = 11 by omega) with rfl | rfl | rfl | rfl | rfl | rfl | rfl | rfl | rfl | rfl | rfl | rfl <;> (intro h; cases h)
      · cases h
      · cases h
    · rintro ls a W ⟨u, rfl, R⟩ i hi
      have h0 := (mem_ready.1 hi).1
      have hi13 : i < 13 := by
        obtain ⟨o, ho, _⟩ := (mem_ready.1 hi).2
        exact (Array.getElem?_eq_some_iff.1 ho).1
      have h12 := R.open12 hi13 h0
      have hF := R.f h12
      have q1 : W.cell? ⟨w.heap.size, 0, none⟩ = some (.pointer (some ⟨vb, 0, none⟩)) := (Lib.cell_of_heap R.b1 _).trans rfl
      have qv : W.cell? ⟨vb, 0, none⟩ = some (.slice Av N cv) := (R.bel.cell (p := ⟨vb, 0, none⟩) hvbl).trans HY0.out
      have hlt := (Array.getElem?_eq_some_iff.1 R.b1).1
      have HR := Lib.hid (And.intro R (And.intro h0 hlt))
      clear R h0 hlt
      rcases (show i = 0 ∨ i = 1 ∨ i = 2 ∨ i = 3 ∨ i = 4 ∨ i = 5 ∨ i = 6 ∨ i = 7 ∨ i = 8 ∨ i = 9 ∨ i = 10 ∨ i = 11 ∨ i = 12 by omega) with rfl | rfl | rfl | rfl | rfl | rfl | rfl | rfl | rfl | rfl | rfl | rfl | rfl
      · clear hi hF
        refine wpOp_step (o := ⟨_, _, _, _, _, _⟩) rfl (fun K' hK' => ?_)
        go_simp
        exact hK' _ _ ⟨fun s => if s = dstF 0 then (.pointer (some ⟨vb, 0, none⟩)) else u s, rfl, HR.out.1.next (i := 0) (W' := W) (by decide) HR.out.2.1 (Below.refl _ _) (.pointer (some ⟨vb, 0, none⟩)) rfl (fun e => by cases e) (fun e => by cases e)⟩
      · have l0 := ready_dep (o := ⟨_, _, _, _, _, _⟩) hi rfl 0 (by kernel_rfl)
        have f0 : u 11 = .pointer (some ⟨vb, 0, none⟩) := hF 0 (by decide) l0
        have hlen : Calls Tryz.prog 16 #[u 11] W fun e w' => e = .returned (.int .i64 N) ∧ w' = W := by rw [f0]; exact len_cell2 ⟨q1, qv⟩
        clear f0
        clear hi hF
        refine wpOp_step (o := ⟨_, _, _, _, _, _⟩) rfl (fun K' hK' => ?_)
        go_simp
        refine hlen.mono ?_
        rintro e w' ⟨rfl, rfl⟩
        dsimp only
        exact hK' _ _ ⟨fun s => if s = dstF 1 then (.int .i64 (N : Int)) else u s, rfl, HR.out.1.next (i := 1) (W' := w') (by decide) HR.out.2.1 (Below.refl _ _) (.int .i64 (N : Int)) rfl (fun e => by cases e) (fun e => by cases e)⟩
      · have l1 := ready_dep (o := ⟨_, _, _, _, _, _⟩) hi rfl 1 (by kernel_rfl)
        have f1 : u 12 = .int .i64 (N : Int) := hF 1 (by decide) l1
        have hmk := HMK.out.1 W
        rw [← f1] at hmk
        clear f1
        have hoth := HR.out.1.f h12 5 (by decide)
        clear hi hF
        refine wpOp_step (o := ⟨_, _, _, _, _, _⟩) rfl (fun K' hK' => ?_)
        go_simp
        exact hK' _ _ ⟨fun s => if s = dstF 2 then (slN W.heap.size N) else u s, rfl, HR.out.1.next (i := 2) (W' := W.alloc (.cells (madeCells #[.bool false] N) 4)) (by decide) HR.out.2.1 (below_new W _) (slN W.heap.size N) ⟨W.heap.size, rfl, heap_new_ W _, HR.out.2.2⟩ (fun _ l5 e => by obtain ⟨b, e2, m, _⟩ := hoth l5; rw [e2] at e; cases e; exact absurd (Array.getElem?_eq_some_iff.1 m).1 (Nat.lt_irrefl _)) (fun e => by cases e)⟩
      · clear hi hF
        refine wpOp_step (o := ⟨_, _, _, _, _, _⟩) rfl (fun K' hK' => ?_)
        go_simp
        exact hK' _ _ ⟨fun s => if s = dstF 3 then (.pointer (some ⟨vb, 0, none⟩)) else u s, rfl, HR.out.1.next (i := 3) (W' := W) (by decide) HR.out.2.1 (Below.refl _ _) (.pointer (some ⟨vb, 0, none⟩)) rfl (fun e => by cases e) (fun e => by cases e)⟩
      · have l3 := ready_dep (o := ⟨_, _, _, _, _, _⟩) hi rfl 3 (by kernel_rfl)
        have f3 : u 14 = .pointer (some ⟨vb, 0, none⟩) := hF 3 (by decide) l3
        have hlen : Calls Tryz.prog 16 #[u 14] W fun e w' => e = .returned (.int .i64 N) ∧ w' = W := by rw [f3]; exact len_cell2 ⟨q1, qv⟩
        clear f3
        clear hi hF
        refine wpOp_step (o := ⟨_, _, _, _, _, _⟩) rfl (fun K' hK' => ?_)
        go_simp
        refine hlen.mono ?_
        rintro e w' ⟨rfl, rfl⟩
        dsimp only
        exact hK' _ _ ⟨fun s => if s = dstF 4 then (.int .i64 (N : Int)) else u s, rfl, HR.out.1.next (i := 4) (W' := w') (by decide) HR.out.2.1 (Below.refl _ _) (.int .i64 (N : Int)) rfl (fun e => by cases e) (fun e => by cases e)⟩
      · have l4 := ready_dep (o := ⟨_, _, _, _, _, _⟩) hi rfl 4 (by kernel_rfl)
        have f4 : u 15 = .int .i64 (N : Int) := hF 4 (by decide) l4
        have hmk := HMK.out.1 W
        rw [← f4] at hmk
        clear f4
        have hoth := HR.out.1.f h12 2 (by decide)
        clear hi hF
        refine wpOp_step (o := ⟨_, _, _, _, _, _⟩) rfl (fun K' hK' => ?_)
        go_simp
        exact hK' _ _ ⟨fun s => if s = dstF 5 then (slN W.heap.size N) else u s, rfl, HR.out.1.next (i := 5) (W' := W.alloc (.cells (madeCells #[.bool false] N) 4)) (by decide) HR.out.2.1 (below_new W _) (slN W.heap.size N) ⟨W.heap.size, rfl, heap_new_ W _, HR.out.2.2⟩ (fun e => by cases e) (fun _ l2 e => by obtain ⟨b, e2, m, _⟩ := hoth l2; rw [e2] at e; cases e; exact absurd (Array.getElem?_eq_some_iff.1 m).1 (Nat.lt_irrefl _))⟩
      · clear hi hF
        refine wpOp_step (o := ⟨_, _, _, _, _, _⟩) rfl (fun K' hK' => ?_)
        go_simp
        exact hK' _ _ ⟨fun s => if s = dstF 6 then (.pointer (some ⟨vb, 0, none⟩)) else u s, rfl, HR.out.1.next (i := 6) (W' := W) (by decide) HR.out.2.1 (Below.refl _ _) (.pointer (some ⟨vb, 0, none⟩)) rfl (fun e => by cases e) (fun e => by cases e)⟩
      · have l6 := ready_dep (o := ⟨_, _, _, _, _, _⟩) hi rfl 6 (by kernel_rfl)
        have f6 : u 17 = .pointer (some ⟨vb, 0, none⟩) := hF 6 (by decide) l6
        have hlen : Calls Tryz.prog 16 #[u 17] W fun e w' => e = .returned (.int .i64 N) ∧ w' = W := by rw [f6]; exact len_cell2 ⟨q1, qv⟩
        clear f6
        clear hi hF
        refine wpOp_step (o := ⟨_, _, _, _, _, _⟩) rfl (fun K' hK' => ?_)
        go_simp
        refine hlen.mono ?_
        rintro e w' ⟨rfl, rfl⟩
        dsimp only
        exact hK' _ _ ⟨fun s => if s = dstF 7 then (.int .i64 (N : Int)) else u s, rfl, HR.out.1.next (i := 7) (W' := w') (by decide) HR.out.2.1 (Below.refl _ _) (.int .i64 (N : Int)) rfl (fun e => by cases e) (fun e => by cases e)⟩
      · have l7 := ready_dep (o := ⟨_, _, _, _, _, _⟩) hi rfl 7 (by kernel_rfl)
        have f7 : u 18 = .int .i64 (N : Int) := hF 7 (by decide) l7
        have hmk := HMK.out.2 W
        rw [← f7] at hmk
        clear f7
        clear hi hF
        refine wpOp_step (o := ⟨_, _, _, _, _, _⟩) rfl (fun K' hK' => ?_)
        go_simp
        exact hK' _ _ ⟨fun s => if s = dstF 8 then (slN W.heap.size N) else u s, rfl, HR.out.1.next (i := 8) (W' := W.alloc (.cells (madeCells #[.slice none 0 0] N) 98)) (by decide) HR.out.2.1 (below_new W _) (slN W.heap.size N) ⟨W.heap.size, rfl, heap_new_ W _, HR.out.2.2⟩ (fun e => by cases e) (fun e => by cases e)⟩
      · have l2 := ready_dep (o := ⟨_, _, _, _, _, _⟩) hi rfl 2 (by kernel_rfl)
        have l5 := ready_dep (o := ⟨_, _, _, _, _, _⟩) hi rfl 5 (by kernel_rfl)
        have l8 := ready_dep (o := ⟨_, _, _, _, _, _⟩) hi rfl 8 (by kernel_rfl)
        obtain ⟨hb, f2, m2⟩ := hF 2 (by decide) l2
        obtain ⟨tb, f5, m5⟩ := hF 5 (by decide) l5
        obtain ⟨rb, f8, m8⟩ := hF 8 (by decide) l8
        have hne : hb ≠ tb := fun e => HR.out.1.ne h12 l2 l5 (by rw [f2, f5, e])
        have HM := Lib.hid (And.intro hne (And.intro m2 (And.intro m5 m8)))
        have g2 : u 13 = .slice (some ⟨hb, 0, none⟩) N N := f2
        have g5 : u 16 = .slice (some ⟨tb, 0, none⟩) N N := f5
        have g8 : u 19 = .slice (some ⟨rb, 0, none⟩) N N := f8
        clear hne m2 m5 m8 f2 f5 f8
        clear hi hF
        refine wpOp_step (o := ⟨_, _, _, _, _, _⟩) rfl (fun K' hK' => ?_)
        go_simp
        exact hK' _ _ ⟨fun s => if s = dstF 9 then (.agg #[.slice (some ⟨hb, 0, none⟩) N N, .slice (some ⟨tb, 0, none⟩) N N, .slice (some ⟨rb, 0, none⟩) N N]) else u s, by rw [← g2, ← g5, ← g8]; rfl, HR.out.1.next (i := 9) (W' := W) (by decide) HR.out.2.1 (Below.refl _ _) (.agg #[.slice (some ⟨hb, 0, none⟩) N N, .slice (some ⟨tb, 0, none⟩) N N, .slice (some ⟨rb, 0, none⟩) N N]) ⟨hb, tb, rb, rfl, HM.out.1, HM.out.2.1, HM.out.2.2.1, HM.out.2.2.2⟩ (fun e => by cases e) (fun e => by cases e)⟩
      · have l9 := ready_dep (o := ⟨_, _, _, _, _, _⟩) hi rfl 9 (by kernel_rfl)
        obtain ⟨hb, tb, rb, f9, hne, m2, m5, m8⟩ := hF 9 (by decide) l9
        have HM := Lib.hid (And.intro hne (And.intro m2 (And.intro m5 m8)))
        clear hne m2 m5 m8
        have f9' : u 20 = .agg #[.slice (some ⟨hb, 0, none⟩) N N, .slice (some ⟨tb, 0, none⟩) N N, .slice (some ⟨rb, 0, none⟩) N N] := f9
        clear f9
        clear hi hF
        refine wpOp_step (o := ⟨_, _, _, _, _, _⟩) rfl (fun K' hK' => ?_)
        go_simp
        exact hK' _ _ ⟨fun s => if s = dstF 10 then (.pointer (some ⟨W.heap.size, 0, none⟩)) else u s, by rw [← f9']; rfl, HR.out.1.next (i := 10) (W' := W.alloc (.cells #[slN hb N, slN tb N, slN rb N] 72)) (by decide) HR.out.2.1 (below_new W _) (.pointer (some ⟨W.heap.size, 0, none⟩)) ⟨W.heap.size, hb, tb, rb, rfl, heap_new_ W _, HR.out.2.2, HM.out.1, HM.out.2.1.up (below_new W _), HM.out.2.2.1.up (below_new W _), HM.out.2.2.2.up (below_new W _)⟩ (fun e => by cases e) (fun e => by cases e)⟩
      · clear hi hF
        refine wpOp_step (o := ⟨_, _, _, _, _, _⟩) rfl (fun K' hK' => ?_)
        go_simp
        exact hK' _ _ ⟨fun s => if s = dstF 11 then (.pointer (some ⟨W.heap.size, 0, none⟩)) else u s, rfl, HR.out.1.next (i := 11) (W' := W.alloc (.cells #[.pointer none] 62)) (by decide) HR.out.2.1 (below_new W _) (.pointer (some ⟨W.heap.size, 0, none⟩)) ⟨W.heap.size, .pointer none, rfl, heap_new_ W _, HR.out.2.2⟩ (fun e => by cases e) (fun e => by cases e)⟩
      · have l0 := ready_dep (o := ⟨_, _, _, _, _, _⟩) hi rfl 0 (by kernel_rfl)
        have l1 := ready_dep (o := ⟨_, _, _, _, _, _⟩) hi rfl 1 (by kernel_rfl)
        have l2 := ready_dep (o := ⟨_, _, _, _, _, _⟩) hi rfl 2 (by kernel_rfl)
        have l3 := ready_dep (o := ⟨_, _, _, _, _, _⟩) hi rfl 3 (by kernel_rfl)
        have l4 := ready_dep (o := ⟨_, _, _, _, _, _⟩) hi rfl 4 (by kernel_rfl)
        have l5 := ready_dep (o := ⟨_, _, _, _, _, _⟩) hi rfl 5 (by kernel_rfl)
        have l6 := ready_dep (o := ⟨_, _, _, _, _, _⟩) hi rfl 6 (by kernel_rfl)
        have l7 := ready_dep (o := ⟨_, _, _, _, _, _⟩) hi rfl 7 (by kernel_rfl)
        have l8 := ready_dep (o := ⟨_, _, _, _, _, _⟩) hi rfl 8 (by kernel_rfl)
        have l9 := ready_dep (o := ⟨_, _, _, _, _, _⟩) hi rfl 9 (by kernel_rfl)
        have l10 := ready_dep (o := ⟨_, _, _, _, _, _⟩) hi rfl 10 (by kernel_rfl)
        have l11 := ready_dep (o := ⟨_, _, _, _, _, _⟩) hi rfl 11 (by kernel_rfl)
        obtain ⟨sb, hb, tb, rb, f10, hs, hsl, hne, m2, m5, m8⟩ := hF 10 (by decide) l10
        obtain ⟨Bs, v0, f11, hq, hBl⟩ := hF 11 (by decide) l11
        have hx : W.cell? ⟨Bs, 0, none⟩ = some v0 := (Lib.cell_of_heap hq _).trans rfl
        have hfz : W.frozen? ⟨Bs, 0, none⟩ = false := frozen_of_heap hq 0
        have hst := set_heap W Bs 0 (.pointer (some ⟨sb, 0, none⟩)) _ _ _ hq
        have hot : ∀ k, k ≠ Bs → (W.setCell ⟨Bs, 0, none⟩ (.pointer (some ⟨sb, 0, none⟩))).heap[k]? = W.heap[k]? := fun k hk => set_heap_other W Bs 0 k _ hk
        have tne : ∀ {g : Nat} {c : Array Value} {T : TypeId}, W.heap[g]? = some (.cells c T) → T ≠ 62 → g ≠ Bs := fun h hT e => by subst e; rw [hq] at h; cases h; exact hT rfl
        have hall : ∀ j, j < 13 → (ls.setIfInBounds 12 true).getD j false = true := fun j hj => by
          rcases (show j = 0 ∨ j = 1 ∨ j = 2 ∨ j = 3 ∨ j = 4 ∨ j = 5 ∨ j = 6 ∨ j = 7 ∨ j = 8 ∨ j = 9 ∨ j = 10 ∨ j = 11 ∨ j = 12 by omega) with rfl | rfl | rfl | rfl | rfl | rfl | rfl | rfl | rfl | rfl | rfl | rfl | rfl
          · rw [getD_set_ne false (by decide)]; exact l0
          · rw [getD_set_ne false (by decide)]; exact l1
          · rw [getD_set_ne false (by decide)]; exact l2
          · rw [getD_set_ne false (by decide)]; exact l3
          · rw [getD_set_ne false (by decide)]; exact l4
          · rw [getD_set_ne false (by decide)]; exact l5
          · rw [getD_set_ne false (by decide)]; exact l6
          · rw [getD_set_ne false (by decide)]; exact l7
          · rw [getD_set_ne false (by decide)]; exact l8
          · rw [getD_set_ne false (by decide)]; exact l9
          · rw [getD_set_ne false (by decide)]; exact l10
          · rw [getD_set_ne false (by decide)]; exact l11
          · simp [HR.out.1.sz]
        have hM5 : Made5 w vb N Bs sb hb tb rb (W.setCell ⟨Bs, 0, none⟩ (.pointer (some ⟨sb, 0, none⟩))) := ⟨(hot _ (by omega)).trans HR.out.1.b1, hst, (hot _ (tne hs (by decide))).trans hs, (hot _ (tne m2.1 (by decide))).trans m2.1, (hot _ (tne m5.1 (by decide))).trans m5.1, (hot _ (tne m8.1 (by decide))).trans m8.1, ⟨hBl, hsl, m2.2, m5.2, m8.2⟩, hne, HR.out.1.bel.setCell (p := ⟨Bs, 0, none⟩) (Nat.le_of_lt hBl) _⟩
        have HM := Lib.hid (And.intro hM5 (And.intro hall (And.intro (hot w.heap.size (by omega)) hBl)))
        clear hM5 hall hot hst tne hs hsl hne m2 m5 m8 hq hBl l0 l1 l2 l3 l4 l5 l6 l7 l8 l9 l10 l11
        clear hi hF
        refine wpOp_step (o := ⟨_, _, _, _, _, _⟩) rfl (fun K' hK' => ?_)
        go_simp
        exact hK' _ _ ⟨u, by first | rfl | (rw [← f10, ← f11]), ⟨by rw [Array.size_setIfInBounds]; exact HR.out.1.sz, HM.out.2.2.1.trans HR.out.1.b1, HR.out.1.bel.setCell (p := ⟨Bs, 0, none⟩) (Nat.le_of_lt HM.out.2.2.2) _, (fun h => by rw [HM.out.2.1 12 (by decide)] at h; cases h), (fun h => by rw [HM.out.2.1 12 (by decide)] at h; cases h), fun _ => ⟨⟨Bs, sb, hb, tb, rb, f11, HM.out.1⟩, HM.out.2.1⟩⟩⟩
    · rintro ls a W ⟨u, rfl, R⟩ hr
      have hall := all_listed (by kernel_rfl) (by rw [R.sz]; rfl) hr
      obtain ⟨⟨Bs, sb, hb, tb, rb, hu3, hm⟩, _⟩ := R.e (hall 12 (by decide))
      have HM := Lib.hid hm
      have HU := Lib.hid hu3
      clear hm hu3 hall hr R
      go_wp2_with fail
      go_meet
      exact ⟨Bs, HU.out, Lib.hid ⟨sb, hb, tb, rb, HM.out⟩⟩
  case rest =>
    obtain ⟨Bs, rfl, HM5⟩ := hcut
    obtain ⟨sb, hb, tb, rb, hm5⟩ := HM5.out
    have hmm := @run_makeMap Tryz.prog
    have q1 : wc.cell? ⟨w.heap.size, 0, none⟩ = some (.pointer (some ⟨vb, 0, none⟩)) := (Lib.cell_of_heap hm5.b1 _).trans rfl
    have q1l := (Array.getElem?_eq_some_iff.1 hm5.b1).1
    have hmap0 : (wc.alloc (.map #[] 0)).ownsMap Tryz.prog 95 (plainElem Tryz.prog 3) wc.heap.size 0 (.map [] : DataW Unit) := World.ownsMap_made _ _ _ _
    have hb1 := below_new wc (.map #[] 0)
    have hb2 := below_new (wc.alloc (.map #[] 0)) (.cells #[.map (some wc.heap.size)] 86)
    have hb3 := below_new ((wc.alloc (.map #[] 0)).alloc (.cells #[.map (some wc.heap.size)] 86)) (.cells #[.pointer (some ⟨vb, 0, none⟩)] 26)
    have hz1 : (wc.alloc (.map #[] 0)).heap.size = wc.heap.size + 1 := World.size_alloc _ _
    have hz2 : ((wc.alloc (.map #[] 0)).alloc (.cells #[.map (some wc.heap.size)] 86)).heap.size = wc.heap.size + 1 + 1 := by rw [World.size_alloc, hz1]
    have hz3 : (((wc.alloc (.map #[] 0)).alloc (.cells #[.map (some wc.heap.size)] 86)).alloc (.cells #[.pointer (some ⟨vb, 0, none⟩)] 26)).heap.size = wc.heap.size + 1 + 1 + 1 := by rw [World.size_alloc, hz2]
    have hq2 := heap_new_ (wc.alloc (.map #[] 0)) (.cells #[.map (some wc.heap.size)] 86)
    have hq3 := heap_new_ ((wc.alloc (.map #[] 0)).alloc (.cells #[.map (some wc.heap.size)] 86)) (.cells #[.pointer (some ⟨vb, 0, none⟩)] 26)
    rw [hz1] at hq2
    rw [hz2] at hq3
    have hb123 := blw (blw hb1 hb2) hb3
    have hm5b := hm5.below hb123
    have hmap3 := map_same (map_same hmap0 (hb2.block _ (by omega))) (hb3.block _ (by rw [hz2]; omega))
    have hq2b := (hb3.block _ (by rw [hz2]; omega)).trans hq2
    obtain ⟨wL, hwL⟩ : ∃ x, ((wc.alloc (.map #[] 0)).alloc (.cells #[.map (some wc.heap.size)] 86)).alloc (.cells #[.pointer (some ⟨vb, 0, none⟩)] 26) = x := ⟨_, rfl⟩
    rw [hwL] at hm5b hmap3 hq2b hq3 hz3 hb123
    have hsz0 : w.heap.size < wc.heap.size := q1l
    have hR0 : RdI w L vb Bs (wc.heap.size + 1) (wc.heap.size + 1 + 1) sb hb tb rb wc.heap.size (wc.heap.size + 1 + 1 + 1) 0 ⟨tag0 sb hb tb rb, [], fun _ => [], List.replicate L.length false, .map []⟩ wL := by
      obtain ⟨hs1, hs2⟩ := hm5b.sch hN4
      have ltc : ∀ {g : Nat} {o : Obj}, wc.heap[g]? = some o → g < wc.heap.size := fun h => (Array.getElem?_eq_some_iff.1 h).1
      have hfar : ∀ g, wc.heap.size ≤ g → tag0 sb hb tb rb g = .other := fun g hg => by
        have h1 := ltc hm5.s; have h2 := ltc hm5.h; have h3 := ltc hm5.t; have h4 := ltc hm5.r
        unfold tag0
        rw [if_neg (by omega), if_neg (by omega), if_neg (by omega), if_neg (by omega)]
      rw [HV.out.2.2.2.2]
      refine ⟨by rw [HV.out.2.2.2.2]; exact hs1, wok_nil _, by rw [HV.out.2.2.2.2]; exact List.length_replicate, Nat.le_refl _, ?_, hmap3, PMap.start L, hs2 _ (.inl rfl), hs2 _ (.inr rfl), hfar _ (by omega), hfar _ (by omega), hfar _ (Nat.le_refl _), hm5b.b1, hm5b.p, hq2b, hq3, hm5b.bel, by omega, by omega, by omega⟩
      rw [HV.out.2.2.2.2]
      exact (Adds.none N).same fun v => ⟨fun h => h.elim, fun ⟨j, hj, _⟩ => absurd hj (Nat.not_lt_zero _)⟩
    have HR0 := Lib.hid hR0
    have HBv := Lib.hid (And.intro hq3 (And.intro hz3 hsz0))
    have HWL := Lib.hid hwL
    clear hm5 mk1 mk2 hS0 HM5 hmap0 hb1 hb2 hb3 hz1 hz2 hz3 hq2 hq3 hb123 hm5b hmap3 hq2b hR0 hwL hsz0
    go_wp2_with (go_at_call 51; refine (terms_call vb _).mono ?_; rintro e w3 ⟨rfl, rfl⟩)
    rw [HWL.out]
    refine (wpIn_wide (n := 9)).1 ?_
    have hsL : wL.heap.size = wc.heap.size + 1 + 1 + 1 := HBv.out.2.1
    refine wpIn_rangeFunc_J (F := Fence.wide) (n := 9) (G := Gh) (α := Nat × Value) rfl (by omega) (gf := 75) (lb := #[.pointer (some ⟨wc.heap.size + 1 + 1, 0, none⟩)]) rfl trivial (enters_of Tryz.func75 (by kernel_rfl) rfl) (encs := fun x : Nat × Value => #[.int .i64 (x.1 : Nat), x.2]) (fun x => rfl)
      (RdI w L vb Bs (wc.heap.size + 1) (wc.heap.size + 1 + 1) sb hb tb rb wc.heap.size (wc.heap.size + 1 + 1 + 1)) (fun _ _ => False) (RdT L freeG) (fun _ _ => False) L.length
      (terms_seq (S := S) (vb := vb) (mb := mb0) (ob := ob) (L := L) 8 (wc.heap.size + 1 + 1) freeG _ (fun t ht => Nat.le_trans (HV.out.2.2.1 t ht) (by decide)) HV.out.2.2.2.1.len ?hI)
      ?own (fun _ _ _ _ h _ _ => h) (fun _ _ _ _ _ h => h.elim) ⟨_, HR0.out⟩
      (fun k x a' W => ∃ (γ : Gh) (Bx : Nat) (t : Tm) (o m : Int) (A : Option Addr) (la ca : Nat) (K : Option Addr) (lk ck : Nat), RdI w L vb Bs (wc.heap.size + 1) (wc.heap.size + 1 + 1) sb hb tb rb wc.heap.size (wc.heap.size + 1 + 1 + 1) k γ W ∧ L[k]? = some t ∧ W.heap[Bx]? = some (.cells #[.int .i64 o, .int .i64 m, .slice A la ca, .slice K lk ck] 43) ∧ γ.K Bx = .other ∧ wc.heap.size + 1 + 1 + 1 ≤ Bx ∧ TmC (freeG γ) W t (.int .i64 o) (.int .i64 m) (.slice A la ca) (.slice K lk ck) ∧ a' = { tmps := #[.pointer (some ⟨vb, 0, none⟩), .pointer (some ⟨w.heap.size, 0, none⟩), .pointer none, .pointer (some ⟨Bs, 0, none⟩), .pointer (some ⟨wc.heap.size + 1, 0, none⟩), .int .i64 (k : Nat), .pointer (some ⟨Bx, 0, none⟩), undef, undef, undef, undef, u11, u12, u13, u14, u15, u16, u17, u18, u19, u20, u21, .map (some wc.heap.size), .pointer (some ⟨vb, 0, none⟩), .func (.func 75) #[] #[.pointer (some ⟨wc.heap.size + 1 + 1, 0, none⟩)], .int .i64 (k : Nat), .agg #[.int .i64 o, .int .i64 m, .slice A la ca, .slice K lk ck], undef, undef, undef, undef, undef, undef, undef, undef, undef, undef, undef, undef, undef, undef, undef, undef, undef, undef, undef, undef, undef, undef, undef, undef, undef, undef, undef, undef, undef, undef, undef, undef, undef, undef, undef, undef, undef, undef, undef, undef, undef, undef, undef, undef, undef, undef, undef, undef, undef, undef, undef, undef, undef], defers := [] })
      ?hAx ?assign ?body ?done (fun _ _ _ _ h _ => h.elim)
    case hI =>
      intro k γ A hA
      exact ⟨(Lib.cell_of_heap hA.hv _).trans rfl, HV.out.1.below hA.bel, fun g hg => hA.sch.far g hg⟩
    case own =>
      intro k γ A A' row hs hg hr
      rw [hsL] at hr
      exact hs.grown hg hr
    case hAx =>
      rintro k x a' _ A A' row ⟨γ, Bx, t, o, m, Ad, la, ca, K, lk, ck, h1, h2, h3, h4, h5, h6, h7⟩ hg hr
      rw [hsL] at hr
      exact ⟨γ, Bx, t, o, m, Ad, la, ca, K, lk, ck, h1.grown hg hr, h2, (hg.block Bx (Array.getElem?_eq_some_iff.1 h3).1 (fun e => by
        obtain ⟨_, ob, ho, hoc⟩ := hr Bx e.symm
        rw [h3] at ho; cases ho; cases hoc)).trans h3, h4, h5, TmC.grown hg (fun r e => (hr r e).2) h6, h7⟩
    case assign =>
      rintro l k γ x W Kk hkN hI ⟨hx1, t, c0, c1, c2, c3, htk, hx2, hc⟩ hK
      obtain ⟨x1, x2⟩ := x
      obtain rfl : x1 = k := hx1
      obtain rfl : x2 = .agg #[c0, c1, c2, c3] := hx2
      obtain ⟨o, m, A, la, ca, K, lk, ck, rfl, rfl, rfl, rfl⟩ := hc.shape
      have hnew := below_new W (.cells #[.int .i64 o, .int .i64 m, .slice A la ca, .slice K lk ck] 43)
      have hq := heap_new_ W (.cells #[.int .i64 o, .int .i64 m, .slice A la ca, .slice K lk ck] 43)
      have HA := Lib.hid (hK { tmps := #[.pointer (some ⟨vb, 0, none⟩), .pointer (some ⟨w.heap.size, 0, none⟩), .pointer none, .pointer (some ⟨Bs, 0, none⟩), .pointer (some ⟨wc.heap.size + 1, 0, none⟩), .int .i64 (x1 : Nat), .pointer (some ⟨W.heap.size, 0, none⟩), undef, undef, undef, undef, u11, u12, u13, u14, u15, u16, u17, u18, u19, u20, u21, .map (some wc.heap.size), .pointer (some ⟨vb, 0, none⟩), .func (.func 75) #[] #[.pointer (some ⟨wc.heap.size + 1 + 1, 0, none⟩)], .int .i64 (x1 : Nat), .agg #[.int .i64 o, .int .i64 m, .slice A la ca, .slice K lk ck], undef, undef, undef, undef, undef, undef, undef, undef, undef, undef, undef, undef, undef, undef, undef, undef, undef, undef, undef, undef, undef, undef, undef, undef, undef, undef, undef, undef, undef, undef, undef, undef, undef, undef, undef, undef, undef, undef, undef, undef, undef, undef, undef, undef, undef, undef, undef, undef, undef, undef, undef, undef, undef], defers := [] } _ (KeepsFrom.of_grownBy (grown_of_below hnew none) (fun j e => by cases e)) ⟨γ, W.heap.size, t, o, m, A, la, ca, K, lk, ck, hI.below hnew, htk, hq, hI.sch.far _ (Nat.le_refl _), hI.lod, TmC.below hnew _ _ _ _ _ hc, rfl⟩)
      clear hK hnew hq hc hI
      dsimp only
      gi_wp2
      exact HA.out
    case body =>
      rintro l k x a' W hkN hl ⟨γ, Bx, t, o, m, A, la, ca, K, lk, ck, hI, htk, hq, hKx, hBx, hc, rfl⟩
      obtain ⟨o', m', d, ks⟩ := t
      have hc0 := hc
      have hkv := kidv hc0
      unfold TmC at hc
      obtain ⟨e0, ho, e1, hm, ⟨A', la', ca', e2, hA1, hA2, hA3, hA4⟩, _⟩ := hc
      cases e0; cases e1; cases e2
      obtain ⟨hkl, hk1, hk2, _⟩ := hkv
      obtain ⟨z0, hz0⟩ : ∃ x, wc.heap.size = x := ⟨_, rfl⟩
      obtain ⟨kz, hkz⟩ : ∃ z, kidsN L ks = z := ⟨_, rfl⟩
      obtain ⟨mz, hmz⟩ : ∃ z, mentionsF d (k : Int) = z := ⟨_, rfl⟩
      rw [hz0] at hI hBx ⊢
      have hkinds := HV.out.2.2.2.1.kinds htk
      have hdl := hA3.1
      have hL96 := HV.out.2.2.2.1.len
      have hall : ∀ k ∈ ks, k ∈ L := fun k hk => by
        obtain ⟨j, hj, _⟩ := HV.out.2.2.2.1.kid htk hk
        exact List.mem_of_getElem? (findV_some hj).1
      have hnum : ∀ W', Below W.heap.size W W' → Calls Tryz.prog 52 #[.pointer (some ⟨vb, 0, none⟩), .slice K lk ck] W' (InsPostF W' kz) := fun W' hb' => by
        have hbw := hI.bel.trans (hb'.mono hI.bel.size)
        rw [← hkz]
        exact numbers_any (B := freeG γ) K lk ck ks W' (HV.out.1.below hbw) ((HV.out.2.1.on hbw).mono hbw.size) hkl hk1 hk2 (fun W'' hb'' => (kidv (TmC.below (blw hb' hb'') _ _ _ _ _ hc0)).2.2.2) (by omega) hall HV.out.2.2.1
      have hla : la ≤ 100000 := by
        have h1 := (alone_data (right_mk.1 (HV.out.2.2.2.1.right _ (List.mem_of_getElem? htk))).2.1).1
        have h2 := hA3.1
        omega
      have hmen : ∀ W', Below W.heap.size W W' → Calls Tryz.prog 34 #[.slice A la ca, .int .i64 (k : Nat)] W' (InsPostF W' mz) := fun W' hb' => hmz ▸ mentions_far A la ca d (k : Int) W' (hA3.below hb') hA1 hA2 hla
      have x1 : W.cell? ⟨w.heap.size, 0, none⟩ = some (.pointer (some ⟨vb, 0, none⟩)) := (Lib.cell_of_heap hI.h1 _).trans rfl
      have xs : W.cell? ⟨Bs, 0, none⟩ = some (.pointer (some ⟨sb, 0, none⟩)) := (Lib.cell_of_heap hI.hs _).trans rfl
      have x4 : W.cell? ⟨z0 + 1, 0, none⟩ = some (.map (some z0)) := (Lib.cell_of_heap hI.h4 _).trans rfl
      have b0 : W.cell? ⟨Bx, 0, none⟩ = some (.int .i64 o) := (Lib.cell_of_heap hq _).trans rfl
      have b2 : W.cell? ⟨Bx, 2, none⟩ = some (.slice A la ca) := (Lib.cell_of_heap hq _).trans rfl
      have b3 : W.cell? ⟨Bx, 3, none⟩ = some (.slice K lk ck) := (Lib.cell_of_heap hq _).trans rfl
      have hbl1 := block_lt_of_cell x1
      have hbl2 := block_lt_of_cell b0
      have mixed : Tryz.prog.follows Departure.mixedOrders = true := by kernel_rfl
      have HFR : Hid (∀ g, W.heap.size ≤ g → γ.K g = .other) := Lib.hid fun g hg => hI.sch.far g hg
      have hkN2 := hkN
      have hbm := base_mk htk
      rw [hkz, hmz] at hbm
      have hln : kz.length ≤ 4 ∧ mz.length ≤ 4096 ∧ γ.PS.length ≤ 8192 := by
        refine ⟨?_, ?_, ?_⟩
        · rw [← hkz, kidsN_len]; omega
        · rw [← hmz]
          refine rise_len (mentions_rise d k) fun x hx => ?_
          have := HV.out.2.2.2.1.says htk hx
          omega
        · have := hI.cnt; omega
      have HLN := Lib.hid hln
      have HPOS : Hid (∀ v ∈ baseW L k, ∀ x ∈ v.needs, 0 ≤ x ∧ x < (L.length : Int)) := Lib.hid fun v hv => all_pos HV.out.2.2.2.1 (.inl ⟨k, hkN2, hv⟩)
      have HBM := Lib.hid hbm
      have HK4 : Hid (o = 4 → kz.length = 1) := Lib.hid fun h => by rw [← hkz, kidsN_len]; omega
      have HP7 : Hid (o = 7 → PwI L kz k) := Lib.hid fun h => by subst h; exact ⟨m, d, ks, htk, hkz⟩
      have HN7 : Hid (o ≠ 7 → ∀ l, ¬ PwI L l k) := Lib.hid fun h l hl => by
        obtain ⟨mm, d', ks', e, _⟩ := hl
        rw [htk] at e
        cases e
        exact h rfl
      have HZ0 := Lib.hid hz0
      have HNUM := Lib.hid hnum
      have HMEN := Lib.hid hmen
      have HI := Lib.hid (And.intro hI (And.intro htk (And.intro hq (And.intro hKx (And.intro hBx (And.intro hkinds (And.intro hkl (And.intro hkN (And.intro hl (And.intro hkz hmz))))))))))
      have H9 : la ≤ ca ∧ ca ≤ 9223372036854775807 := ⟨hA1, by unfold maxLen at hA2; omega⟩
      obtain ⟨H9a, H9b⟩ := H9
      clear hkN2 hbm hln hla hnum hmen hI htk hq hKx hBx hkinds hkl hkN hl hc0 hA1 hA2 hA3 hA4 hdl hL96 hall ho hm hz0 hkz hmz
      dsimp only
      gi_upto_region 6 with fail
      gi_cut [7, 8] from 27 (fun s7 s8 wx => ∃ K7 c7 A8 c8, s7 = .slice K7 kz.length c7 ∧ s8 = .slice A8 mz.length c8 ∧ Hid (Below W.heap.size W wx ∧ InsG γ.K wx K7 c7 kz ∧ InsG γ.K wx A8 c8 mz))
      case first =>
        try dsimp only
        refine wpIn_round_held (S := fun wx : World => wx.cell? ⟨w.heap.size, 0, none⟩ = some (.pointer (some ⟨vb, 0, none⟩)) ∧ wx.cell? ⟨Bx, 2, none⟩ = some (.slice A la ca) ∧ wx.cell? ⟨Bx, 3, none⟩ = some (.slice K lk ck)) mixed (by kernel_rfl) ⟨x1, b2, b3⟩ (fun hHeld => ?_)
        have hbd := below_drew W
        obtain ⟨wd, hwd⟩ : ∃ x, W.drew = x := ⟨_, rfl⟩
        rw [hwd] at hHeld hbd ⊢
        clear hwd
        (refine wpAnyH_take (i := 0) (oi := ⟨_, _, _, _, _, _⟩) (v := ?_) rfl (by kernel_rfl) (by kernel_rfl) (by kernel_rfl) (fun _ _ _ h => h) (Or.inl ⟨by rfl, ?_⟩) (by assumption) ?_; rotate_left; focus (intro wS hSw; (first | obtain ⟨c1, c2, c3⟩ := hSw | skip); go_simp; (try with_reducible rfl); done); (try simp only [Act.put, List.setIfInBounds_toArray, List.set_cons_zero, List.set_cons_succ]))
        (refine wpAnyH_take (i := 1) (oi := ⟨_, _, _, _, _, _⟩) (v := ?_) rfl (by kernel_rfl) (by kernel_rfl) (by kernel_rfl) (fun _ _ _ h => h) (Or.inl ⟨by rfl, ?_⟩) (by assumption) ?_; rotate_left; focus (intro wS hSw; (first | obtain ⟨c1, c2, c3⟩ := hSw | skip); go_simp; (try with_reducible rfl); done); (try simp only [Act.put, List.setIfInBounds_toArray, List.set_cons_zero, List.set_cons_succ]))
        (refine wpAnyH_take (i := 2) (oi := ⟨_, _, _, _, _, _⟩) (v := ?_) rfl (by kernel_rfl) (by kernel_rfl) (by kernel_rfl) (fun _ _ _ h => h) (Or.inl ⟨by rfl, ?_⟩) (by assumption) ?_; rotate_left; focus (intro wS hSw; (first | obtain ⟨c1, c2, c3⟩ := hSw | skip); go_simp; (try with_reducible rfl); done); (try simp only [Act.put, List.setIfInBounds_toArray, List.set_cons_zero, List.set_cons_succ]))
        (refine wpAnyH_take (i := 4) (oi := ⟨_, _, _, _, _, _⟩) (v := ?_) rfl (by kernel_rfl) (by kernel_rfl) (by kernel_rfl) (fun _ _ _ h => h) (Or.inl ⟨by rfl, ?_⟩) (by assumption) ?_; rotate_left; focus (intro wS hSw; (first | obtain ⟨c1, c2, c3⟩ := hSw | skip); go_simp; (try with_reducible rfl); done); (try simp only [Act.put, List.setIfInBounds_toArray, List.set_cons_zero, List.set_cons_succ]))
        (refine wpAnyH_take (i := 5) (oi := ⟨_, _, _, _, _, _⟩) (v := ?_) rfl (by kernel_rfl) (by kernel_rfl) (by kernel_rfl) (fun _ _ _ h => h) (Or.inl ⟨by rfl, ?_⟩) (by assumption) ?_; rotate_left; focus (intro wS hSw; (first | obtain ⟨c1, c2, c3⟩ := hSw | skip); go_simp; (try with_reducible rfl); done); (try simp only [Act.put, List.setIfInBounds_toArray, List.set_cons_zero, List.set_cons_succ]))
        (refine wpAnyH_take (i := 6) (oi := ⟨_, _, _, _, _, _⟩) (v := ?_) rfl (by kernel_rfl) (by kernel_rfl) (by kernel_rfl) (fun _ _ _ h => h) (Or.inl ⟨by rfl, ?_⟩) (by assumption) ?_; rotate_left; focus (intro wS hSw; (first | obtain ⟨c1, c2, c3⟩ := hSw | skip); go_simp; (try with_reducible rfl); done); (try simp only [Act.put, List.setIfInBounds_toArray, List.set_cons_zero, List.set_cons_succ]))
        refine wpAnyH_ready (rs := [3]) (by kernel_rfl) (by simp) ?_
        refine AllReadyH.cons (o := ⟨_, _, _, _, _, _⟩) rfl (fun KK hKK => ?_) AllReadyH.nil
        go_simp
        refine (HNUM.out _ hbd).mono ?_
        rintro e w2 ⟨An, cn, rfl, n1, n2, n4, n5⟩
        dsimp only
        have hb2 := blw hbd n4
        refine hKK.out _ _ ⟨cell_on hb2 x1, cell_on hb2 b2, cell_on hb2 b3⟩ (fun hHeld2 => ?_)
        clear hKK KK hHeld
        have hHeld := hHeld2
        clear hHeld2
        try simp only [Act.put, List.setIfInBounds_toArray, List.set_cons_zero, List.set_cons_succ]
        refine wpAnyH_ready (rs := [7]) (by kernel_rfl) (by simp) ?_
        refine AllReadyH.cons (o := ⟨_, _, _, _, _, _⟩) rfl (fun KK hKK => ?_) AllReadyH.nil
        go_simp
        refine (HMEN.out _ hb2).mono ?_
        rintro e w3 ⟨Am, cm, rfl, m1, m2, m4, m5⟩
        dsimp only
        have hb3 := blw hb2 m4
        refine hKK.out _ _ ⟨cell_on hb3 x1, cell_on hb3 b2, cell_on hb3 b3⟩ (fun hHeld2 => ?_)
        clear hKK KK hHeld
        have hHeld := hHeld2
        clear hHeld2
        try simp only [Act.put, List.setIfInBounds_toArray, List.set_cons_zero, List.set_cons_succ]
        (refine wpAnyH_take (i := 8) (oi := ⟨_, _, _, _, _, _⟩) (v := ?_) rfl (by kernel_rfl) (by kernel_rfl) (by kernel_rfl) (fun _ _ _ h => h) (Or.inl ⟨by rfl, ?_⟩) (by assumption) ?_; rotate_left; focus (intro wS hSw; (first | obtain ⟨c1, c2, c3⟩ := hSw | skip); go_simp; (try with_reducible rfl); done); (try simp only [Act.put, List.setIfInBounds_toArray, List.set_cons_zero, List.set_cons_succ]))
        (refine wpAnyH_take (i := 9) (oi := ⟨_, _, _, _, _, _⟩) (v := ?_) rfl (by kernel_rfl) (by kernel_rfl) (by kernel_rfl) (fun _ _ _ h => h) (Or.inl ⟨by rfl, ?_⟩) (by assumption) ?_; rotate_left; focus (intro wS hSw; (first | obtain ⟨c1, c2, c3⟩ := hSw | skip); go_simp; (try with_reducible rfl); done); (try simp only [Act.put, List.setIfInBounds_toArray, List.set_cons_zero, List.set_cons_succ]))
        refine wpAnyH_done (by kernel_rfl) ?_ _
        refine NormalOnly.intro ?_
        have hfin : Hid (Below W.heap.size W w3 ∧ InsG γ.K w3 An cn kz ∧ InsG γ.K w3 Am cm mz) := Lib.hid ⟨hb3, InsG.below (InsG.of_new n1 n2 (fun h g off e => Nat.le_trans hbd.size (n5 h g off e)) HFR.out) m4, InsG.of_new m1 m2 (fun h g off e => Nat.le_trans hb2.size (m5 h g off e)) HFR.out⟩
        clear hb2 hb3 hbd n1 n2 n4 n5 m1 m2 m4 m5 hHeld x1 b2 b3
        gi_wp2_with fail
        gi_meet
        exact ⟨_, _, _, _, rfl, rfl, hfin⟩
      case rest =>
        obtain ⟨K7, c7, A8, c8, rfl, rfl, H6⟩ := hcut
        have hG0 := (Grew.start HI.out.1.sch HI.out.1.ok HI.out.1.len).below H6.out.1
        have hbs := HI.out.1.bel.trans (H6.out.1.mono HI.out.1.bel.size)
        have xs1 := cell_on H6.out.1 xs
        have x41 := cell_on H6.out.1 x4
        have b01 := cell_on H6.out.1 b0
        have HG0 := Lib.hid (And.intro hG0 hbs)
        clear hG0 hbs xs x4 b0 x1 b2 b3
        have HKI : Hid (I64 (k : Int)) := Lib.hid ⟨by omega, by have := HI.out.2.2.2.2.2.2.2.1; have := HV.out.2.2.2.1.len; omega⟩
        gi_upto_if 37 with fail
        gi_cut [3] from 37 (fun s3 wx => s3 = .pointer (some ⟨Bs, 0, none⟩) ∧ Hid (∃ K1 PS1 RJ1 hd1, Grew w.heap.size sb hb tb rb (List.replicate L.length false) L.length γ.K γ.PS γ.hd (fun v => o ≠ 1 ∧ v = ⟨kz ++ mz, [(k : Int)]⟩) 1 W wx K1 PS1 RJ1 hd1 ∧ Off (fun g => γ.K g ≠ .other) wc wx ∧ InsG K1 wx K7 c7 kz ∧ InsG K1 wx A8 c8 mz))
        case first =>
          by_cases ho1 : o = 1
          · have hob : (o != 1) = false := by rw [ho1]; rfl
            rw [hob]
            have hfin := Lib.hid (And.intro (HG0.out.1.more (Nat.zero_le 1)) (And.intro H6.out.2.1 H6.out.2.2))
            have HO1 := Lib.hid ho1
            clear ho1 hob
            gi_wp2_with fail
            gi_meet
            exact ⟨rfl, Lib.hid ⟨_, _, _, _, hfin.out.1.same (fun v => ⟨fun h => h.elim, fun h => absurd HO1.out h.1⟩), Off.refl _ _, hfin.out.2.1, hfin.out.2.2⟩⟩
          · have hob : (o != 1) = true := by simp [ho1]
            rw [hob]
            gi_wp2_with fail
            try dsimp only
            refine wpIn_round_held (S := fun wx : World => wx.cell? ⟨Bs, 0, none⟩ = some (.pointer (some ⟨sb, 0, none⟩))) mixed (by kernel_rfl) xs1 (fun hHeld => ?_)
            have hbd := below_drew wc
            obtain ⟨wd, hwd⟩ : ∃ x, wc.drew = x := ⟨_, rfl⟩
            rw [hwd] at hHeld hbd ⊢
            clear hwd
            have kd := H6.out.2.1.below hbd
            have md := H6.out.2.2.below hbd
            (refine wpAnyH_take (i := 0) (oi := ⟨_, _, _, _, _, _⟩) (v := ?_) rfl (by kernel_rfl) (by kernel_rfl) (by kernel_rfl) (fun _ _ _ h => h) (Or.inl ⟨by rfl, ?_⟩) (by assumption) ?_; rotate_left; focus (intro wS hSw; (first | have c1 := hSw | skip); go_simp; (try with_reducible rfl); done); (try simp only [Act.put, List.setIfInBounds_toArray, List.set_cons_zero, List.set_cons_succ]))
            (refine wpAnyH_take (i := 1) (oi := ⟨_, _, _, _, _, _⟩) (v := ?_) rfl (by kernel_rfl) (by kernel_rfl) (by kernel_rfl) (fun _ _ _ h => h) (Or.inl ⟨by rfl, ?_⟩) (by assumption) ?_; rotate_left; focus (intro wS hSw; (first | have c1 := hSw | skip); go_simp; (try with_reducible rfl); done); (try simp only [Act.put, List.setIfInBounds_toArray, List.set_cons_zero, List.set_cons_succ]))
            (refine wpAnyH_take (i := 2) (oi := ⟨_, _, _, _, _, _⟩) (v := ?_) rfl (by kernel_rfl) (by kernel_rfl) (by kernel_rfl) (fun _ _ _ h => h) (Or.inl ⟨by rfl, ?_⟩) (by assumption) ?_; rotate_left; focus (intro wS hSw; (first | have c1 := hSw | skip); go_simp; (try with_reducible rfl); done); (try simp only [Act.put, List.setIfInBounds_toArray, List.set_cons_zero, List.set_cons_succ]))
            (refine wpAnyH_take (i := 5) (oi := ⟨_, _, _, _, _, _⟩) (v := ?_) rfl (by kernel_rfl) (by kernel_rfl) (by kernel_rfl) (fun _ _ _ h => h) (Or.inl ⟨by rfl, ?_⟩) (by assumption) ?_; rotate_left; focus (intro wS hSw; (first | have c1 := hSw | skip); go_simp; (try with_reducible rfl); done); (try simp only [Act.put, List.setIfInBounds_toArray, List.set_cons_zero, List.set_cons_succ]))
            have hbc := hbd
            have xsc := (show wd.cell? ⟨Bs, 0, none⟩ = some (.pointer (some ⟨sb, 0, none⟩)) from hHeld)
            have hpos : ∀ x ∈ kz ++ mz, 0 ≤ x ∧ x < (L.length : Int) := HPOS.out ⟨kz ++ mz, [(k : Int)]⟩ (by rw [HBM.out, if_pos ho1]; simp)
            have hfew : (kz ++ mz).length ≤ 10000 := by rw [List.length_append]; have := HLN.out; omega
            obtain ⟨az, haz⟩ : ∃ z, kz ++ mz = z := ⟨_, rfl⟩
            rw [haz] at hpos hfew
            have HAZ := Lib.hid haz
            clear haz
            have HPF := Lib.hid (And.intro hpos hfew)
            have HO1 := Lib.hid ho1
            clear hpos hfew ho1 hob xs1
            clear hbd
            have HB10 := Lib.hid (And.intro hbc (And.intro kd (And.intro md (xsc))))
            clear hbc kd md xsc
            refine wpAnyH_ready (rs := [3, 6]) (by kernel_rfl) (by simp) ?_
            refine AllReadyH.cons (o := ⟨_, _, _, _, _, _⟩) rfl (fun KK hKK => ?_) (AllReadyH.cons (o := ⟨_, _, _, _, _, _⟩) rfl (fun KK hKK => ?_) AllReadyH.nil)
            · skip
              go_simp
              have hn11 := below_new wd (.cells #[.slice K7 kz.length c7, .slice A8 mz.length c8] 23)
              have q11 := heap_new_ wd (.cells #[.slice K7 kz.length c7, .slice A8 mz.length c8] 23)
              obtain ⟨W11, hW11⟩ : ∃ x, wd.alloc (.cells #[.slice K7 kz.length c7, .slice A8 mz.length c8] 23) = x := ⟨_, rfl⟩
              rw [hW11] at hn11 q11 ⊢
              clear hW11
              have hb11 := blw HB10.out.1 hn11
              have kd11 := HB10.out.2.1.below hn11
              have md11 := HB10.out.2.2.1.below hn11
              have xs11 := cell_on hn11 HB10.out.2.2.2
              refine hKK.out _ _ xs11 (fun hHeld2 => ?_)
              clear hKK KK hHeld
              have hHeld := hHeld2
              clear hHeld2
              try simp only [Act.put, List.setIfInBounds_toArray, List.set_cons_zero, List.set_cons_succ]
              clear hn11
              have HB12 := Lib.hid (And.intro hb11 (And.intro kd11 (And.intro md11 (And.intro xs11 (q11)))))
              clear hb11 kd11 md11 xs11 q11
              refine wpAnyH_ready (rs := [4, 6]) (by kernel_rfl) (by simp) ?_
              refine AllReadyH.cons (o := ⟨_, _, _, _, _, _⟩) rfl (fun KK hKK => ?_) (AllReadyH.cons (o := ⟨_, _, _, _, _, _⟩) rfl (fun KK hKK => ?_) AllReadyH.nil)
              · skip
                go_simp
                have hcon := concat_any wd.heap.size K7 kz.length c7 kz A8 mz.length c8 mz W11 ((Lib.cell_of_heap HB12.out.2.2.2.2 _).trans rfl) ((Lib.cell_of_heap HB12.out.2.2.2.2 _).trans rfl) HB12.out.2.1.ins HB12.out.2.2.1.ins HB12.out.2.1.lc (by have := HB12.out.2.1.cm; unfold maxLen at this; omega) HB12.out.2.2.1.lc (by have := HB12.out.2.2.1.cm; unfold maxLen at this; omega) (by have := HLN.out.1; omega) (by have := HLN.out.2.1; omega)
                rw [HAZ.out] at hcon
                refine hcon.mono ?_
                clear hcon
                rintro e W12 ⟨Ac, cc, rfl, n1, n2, n4, n5⟩
                dsimp only
                have c4_12 := InsG.of_new (K := γ.K) n1 n2 n5 (fun g hg => HFR.out g (Nat.le_trans (Nat.le_trans H6.out.1.size HB12.out.1.size) hg))
                have hb12 := blw HB12.out.1 n4
                have kd12 := HB12.out.2.1.below n4
                have md12 := HB12.out.2.2.1.below n4
                have xs12 := cell_on n4 HB12.out.2.2.2.1
                have p3_12 := heap_on n4 HB12.out.2.2.2.2
                clear n1 n2 n4 n5
                refine hKK.out _ _ xs12 (fun hHeld2 => ?_)
                clear hKK KK hHeld
                have hHeld := hHeld2
                clear hHeld2
                try simp only [Act.put, List.setIfInBounds_toArray, List.set_cons_zero, List.set_cons_succ]
                have HB13 := Lib.hid (And.intro hb12 (And.intro kd12 (And.intro md12 (And.intro xs12 (And.intro c4_12 (p3_12))))))
                clear hb12 kd12 md12 xs12 c4_12 p3_12
                refine wpAnyH_ready (rs := [6]) (by kernel_rfl) (by simp) ?_
                refine AllReadyH.cons (o := ⟨_, _, _, _, _, _⟩) rfl (fun KK hKK => ?_) AllReadyH.nil
                go_simp
                have hn13 := below_new W12 (.cells #[.int .i64 (k : Nat)] 3)
                have q13 := heap_new_ W12 (.cells #[.int .i64 (k : Nat)] 3)
                obtain ⟨W13, hW13⟩ : ∃ x, W12.alloc (.cells #[.int .i64 (k : Nat)] 3) = x := ⟨_, rfl⟩
                rw [hW13] at hn13 q13 ⊢
                clear hW13
                have hb13 := blw HB13.out.1 hn13
                have kd13 := HB13.out.2.1.below hn13
                have md13 := HB13.out.2.2.1.below hn13
                have c413 := HB13.out.2.2.2.2.1.below hn13
                have xs13 := cell_on hn13 HB13.out.2.2.2.1
                have p3_13 := heap_on hn13 HB13.out.2.2.2.2.2
                have hs13 : W.heap.size ≤ W12.heap.size := Nat.le_trans H6.out.1.size HB13.out.1.size
                refine hKK.out _ _ xs13 (fun hHeld2 => ?_)
                clear hKK KK hHeld
                have hHeld := hHeld2
                clear hHeld2
                try simp only [Act.put, List.setIfInBounds_toArray, List.set_cons_zero, List.set_cons_succ]
                clear hn13
                have HB14 := Lib.hid (And.intro hb13 (And.intro kd13 (And.intro md13 (And.intro xs13 (And.intro c413 (And.intro p3_13 (And.intro q13 (hs13))))))))
                clear hb13 kd13 md13 xs13 c413 p3_13 q13 hs13
                refine wpAnyH_ready (rs := [7]) (by kernel_rfl) (by simp) ?_
                refine AllReadyH.cons (o := ⟨_, _, _, _, _, _⟩) rfl (fun KK hKK => ?_) AllReadyH.nil
                go_simp
                refine (add_grew (HG0.out.1.below HB14.out.1) (Nat.le_trans HG0.out.2.size HB14.out.1.size) (by have := HLN.out.2.2; omega) HB14.out.2.2.2.2.1 (InsG.one HB14.out.2.2.2.2.2.2.1 HKI.out (HFR.out _ HB14.out.2.2.2.2.2.2.2)) HPF.out.1 HPF.out.2).mono ?_
                rintro e w2 ⟨rfl, K1, PS1, RJ1, hd1, hG, hT, hO⟩
                dsimp only
                have hfin : Hid (∃ K1 PS1 RJ1 hd1, Grew w.heap.size sb hb tb rb (List.replicate L.length false) L.length γ.K γ.PS γ.hd (fun v => o ≠ 1 ∧ v = ⟨kz ++ mz, [(k : Int)]⟩) 1 W w2 K1 PS1 RJ1 hd1 ∧ Off (fun g => γ.K g ≠ .other) wc w2 ∧ InsG K1 w2 K7 c7 kz ∧ InsG K1 w2 A8 c8 mz) := Lib.hid ⟨K1, PS1, RJ1, hd1, hG.same (fun v => by rw [← HAZ.out]; exact ⟨fun h => h.elim False.elim (fun e => ⟨HO1.out, e⟩), fun h => .inr h.2⟩), Off.trans (Off.of_below (S := fun _ => False) HB14.out.1) hO (fun _ _ h => h.elim) (fun _ _ h => h), HB14.out.2.1.off hO hT, HB14.out.2.2.1.off hO hT⟩
                refine hKK.out _ _ (cell_off hO HI.out.1.ts HB14.out.2.2.2.1) (fun hHeld2 => ?_)
                clear hKK KK hHeld
                have hHeld := hHeld2
                clear hHeld2
                try simp only [Act.put, List.setIfInBounds_toArray, List.set_cons_zero, List.set_cons_succ]
                clear hG hT hO hHeld
                refine wpAnyH_done (by kernel_rfl) ?_ _
                refine NormalOnly.intro ?_
                gi_wp2_with fail
                gi_meet
                exact ⟨rfl, hfin⟩
              · skip
                go_simp
                have hn12 := below_new W11 (.cells #[.int .i64 (k : Nat)] 3)
                have q12 := heap_new_ W11 (.cells #[.int .i64 (k : Nat)] 3)
                obtain ⟨W12, hW12⟩ : ∃ x, W11.alloc (.cells #[.int .i64 (k : Nat)] 3) = x := ⟨_, rfl⟩
                rw [hW12] at hn12 q12 ⊢
                clear hW12
                have hb12 := blw HB12.out.1 hn12
                have kd12 := HB12.out.2.1.below hn12
                have md12 := HB12.out.2.2.1.below hn12
                have xs12 := cell_on hn12 HB12.out.2.2.2.1
                have p3_12 := heap_on hn12 HB12.out.2.2.2.2
                have hs12 : W.heap.size ≤ W11.heap.size := Nat.le_trans H6.out.1.size HB12.out.1.size
                refine hKK.out _ _ xs12 (fun hHeld2 => ?_)
                clear hKK KK hHeld
                have hHeld := hHeld2
                clear hHeld2
                try simp only [Act.put, List.setIfInBounds_toArray, List.set_cons_zero, List.set_cons_succ]
                clear hn12
                have HB13 := Lib.hid (And.intro hb12 (And.intro kd12 (And.intro md12 (And.intro xs12 (And.intro p3_12 (And.intro q12 (hs12)))))))
                clear hb12 kd12 md12 xs12 p3_12 q12 hs12
                refine wpAnyH_ready (rs := [4]) (by kernel_rfl) (by simp) ?_
                refine AllReadyH.cons (o := ⟨_, _, _, _, _, _⟩) rfl (fun KK hKK => ?_) AllReadyH.nil
                go_simp
                have hcon := concat_any wd.heap.size K7 kz.length c7 kz A8 mz.length c8 mz W12 ((Lib.cell_of_heap HB13.out.2.2.2.2.1 _).trans rfl) ((Lib.cell_of_heap HB13.out.2.2.2.2.1 _).trans rfl) HB13.out.2.1.ins HB13.out.2.2.1.ins HB13.out.2.1.lc (by have := HB13.out.2.1.cm; unfold maxLen at this; omega) HB13.out.2.2.1.lc (by have := HB13.out.2.2.1.cm; unfold maxLen at this; omega) (by have := HLN.out.1; omega) (by have := HLN.out.2.1; omega)
                rw [HAZ.out] at hcon
                refine hcon.mono ?_
                clear hcon
                rintro e W13 ⟨Ac, cc, rfl, n1, n2, n4, n5⟩
                dsimp only
                have c4_13 := InsG.of_new (K := γ.K) n1 n2 n5 (fun g hg => HFR.out g (Nat.le_trans (Nat.le_trans H6.out.1.size HB13.out.1.size) hg))
                have hb13 := blw HB13.out.1 n4
                have kd13 := HB13.out.2.1.below n4
                have md13 := HB13.out.2.2.1.below n4
                have xs13 := cell_on n4 HB13.out.2.2.2.1
                have p3_13 := heap_on n4 HB13.out.2.2.2.2.1
                have p6_13 := heap_on n4 HB13.out.2.2.2.2.2.1
                have h6_13 := HB13.out.2.2.2.2.2.2
                clear n1 n2 n4 n5
                refine hKK.out _ _ xs13 (fun hHeld2 => ?_)
                clear hKK KK hHeld
                have hHeld := hHeld2
                clear hHeld2
                try simp only [Act.put, List.setIfInBounds_toArray, List.set_cons_zero, List.set_cons_succ]
                have HB14 := Lib.hid (And.intro hb13 (And.intro kd13 (And.intro md13 (And.intro xs13 (And.intro c4_13 (And.intro p3_13 (And.intro p6_13 (h6_13))))))))
                clear hb13 kd13 md13 xs13 c4_13 p3_13 p6_13 h6_13
                refine wpAnyH_ready (rs := [7]) (by kernel_rfl) (by simp) ?_
                refine AllReadyH.cons (o := ⟨_, _, _, _, _, _⟩) rfl (fun KK hKK => ?_) AllReadyH.nil
                go_simp
                refine (add_grew (HG0.out.1.below HB14.out.1) (Nat.le_trans HG0.out.2.size HB14.out.1.size) (by have := HLN.out.2.2; omega) HB14.out.2.2.2.2.1 (InsG.one HB14.out.2.2.2.2.2.2.1 HKI.out (HFR.out _ HB14.out.2.2.2.2.2.2.2)) HPF.out.1 HPF.out.2).mono ?_
                rintro e w2 ⟨rfl, K1, PS1, RJ1, hd1, hG, hT, hO⟩
                dsimp only
                have hfin : Hid (∃ K1 PS1 RJ1 hd1, Grew w.heap.size sb hb tb rb (List.replicate L.length false) L.length γ.K γ.PS γ.hd (fun v => o ≠ 1 ∧ v = ⟨kz ++ mz, [(k : Int)]⟩) 1 W w2 K1 PS1 RJ1 hd1 ∧ Off (fun g => γ.K g ≠ .other) wc w2 ∧ InsG K1 w2 K7 c7 kz ∧ InsG K1 w2 A8 c8 mz) := Lib.hid ⟨K1, PS1, RJ1, hd1, hG.same (fun v => by rw [← HAZ.out]; exact ⟨fun h => h.elim False.elim (fun e => ⟨HO1.out, e⟩), fun h => .inr h.2⟩), Off.trans (Off.of_below (S := fun _ => False) HB14.out.1) hO (fun _ _ h => h.elim) (fun _ _ h => h), HB14.out.2.1.off hO hT, HB14.out.2.2.1.off hO hT⟩
                refine hKK.out _ _ (cell_off hO HI.out.1.ts HB14.out.2.2.2.1) (fun hHeld2 => ?_)
                clear hKK KK hHeld
                have hHeld := hHeld2
                clear hHeld2
                try simp only [Act.put, List.setIfInBounds_toArray, List.set_cons_zero, List.set_cons_succ]
                clear hG hT hO hHeld
                refine wpAnyH_done (by kernel_rfl) ?_ _
                refine NormalOnly.intro ?_
                gi_wp2_with fail
                gi_meet
                exact ⟨rfl, hfin⟩
            · skip
              go_simp
              have hn11 := below_new wd (.cells #[.int .i64 (k : Nat)] 3)
              have q11 := heap_new_ wd (.cells #[.int .i64 (k : Nat)] 3)
              obtain ⟨W11, hW11⟩ : ∃ x, wd.alloc (.cells #[.int .i64 (k : Nat)] 3) = x := ⟨_, rfl⟩
              rw [hW11] at hn11 q11 ⊢
              clear hW11
              have hb11 := blw HB10.out.1 hn11
              have kd11 := HB10.out.2.1.below hn11
              have md11 := HB10.out.2.2.1.below hn11
              have xs11 := cell_on hn11 HB10.out.2.2.2
              have hs11 : W.heap.size ≤ wd.heap.size := Nat.le_trans H6.out.1.size HB10.out.1.size
              refine hKK.out _ _ xs11 (fun hHeld2 => ?_)
              clear hKK KK hHeld
              have hHeld := hHeld2
              clear hHeld2
              try simp only [Act.put, List.setIfInBounds_toArray, List.set_cons_zero, List.set_cons_succ]
              clear hn11
              have HB12 := Lib.hid (And.intro hb11 (And.intro kd11 (And.intro md11 (And.intro xs11 (And.intro q11 (hs11))))))
              clear hb11 kd11 md11 xs11 q11 hs11
              refine wpAnyH_ready (rs := [3]) (by kernel_rfl) (by simp) ?_
              refine AllReadyH.cons (o := ⟨_, _, _, _, _, _⟩) rfl (fun KK hKK => ?_) AllReadyH.nil
              go_simp
              have hn12 := below_new W11 (.cells #[.slice K7 kz.length c7, .slice A8 mz.length c8] 23)
              have q12 := heap_new_ W11 (.cells #[.slice K7 kz.length c7, .slice A8 mz.length c8] 23)
              obtain ⟨W12, hW12⟩ : ∃ x, W11.alloc (.cells #[.slice K7 kz.length c7, .slice A8 mz.length c8] 23) = x := ⟨_, rfl⟩
              rw [hW12] at hn12 q12 ⊢
              clear hW12
              have hb12 := blw HB12.out.1 hn12
              have kd12 := HB12.out.2.1.below hn12
              have md12 := HB12.out.2.2.1.below hn12
              have xs12 := cell_on hn12 HB12.out.2.2.2.1
              have p6_12 := heap_on hn12 HB12.out.2.2.2.2.1
              have h6_12 := HB12.out.2.2.2.2.2
              refine hKK.out _ _ xs12 (fun hHeld2 => ?_)
              clear hKK KK hHeld
              have hHeld := hHeld2
              clear hHeld2
              try simp only [Act.put, List.setIfInBounds_toArray, List.set_cons_zero, List.set_cons_succ]
              clear hn12
              have HB13 := Lib.hid (And.intro hb12 (And.intro kd12 (And.intro md12 (And.intro xs12 (And.intro q12 (And.intro p6_12 (h6_12)))))))
              clear hb12 kd12 md12 xs12 q12 p6_12 h6_12
              refine wpAnyH_ready (rs := [4]) (by kernel_rfl) (by simp) ?_
              refine AllReadyH.cons (o := ⟨_, _, _, _, _, _⟩) rfl (fun KK hKK => ?_) AllReadyH.nil
              go_simp
              have hcon := concat_any W11.heap.size K7 kz.length c7 kz A8 mz.length c8 mz W12 ((Lib.cell_of_heap HB13.out.2.2.2.2.1 _).trans rfl) ((Lib.cell_of_heap HB13.out.2.2.2.2.1 _).trans rfl) HB13.out.2.1.ins HB13.out.2.2.1.ins HB13.out.2.1.lc (by have := HB13.out.2.1.cm; unfold maxLen at this; omega) HB13.out.2.2.1.lc (by have := HB13.out.2.2.1.cm; unfold maxLen at this; omega) (by have := HLN.out.1; omega) (by have := HLN.out.2.1; omega)
              rw [HAZ.out] at hcon
              refine hcon.mono ?_
              clear hcon
              rintro e W13 ⟨Ac, cc, rfl, n1, n2, n4, n5⟩
              dsimp only
              have c4_13 := InsG.of_new (K := γ.K) n1 n2 n5 (fun g hg => HFR.out g (Nat.le_trans (Nat.le_trans H6.out.1.size HB13.out.1.size) hg))
              have hb13 := blw HB13.out.1 n4
              have kd13 := HB13.out.2.1.below n4
              have md13 := HB13.out.2.2.1.below n4
              have xs13 := cell_on n4 HB13.out.2.2.2.1
              have p3_13 := heap_on n4 HB13.out.2.2.2.2.1
              have p6_13 := heap_on n4 HB13.out.2.2.2.2.2.1
              have h6_13 := HB13.out.2.2.2.2.2.2
              clear n1 n2 n4 n5
              refine hKK.out _ _ xs13 (fun hHeld2 => ?_)
              clear hKK KK hHeld
              have hHeld := hHeld2
              clear hHeld2
              try simp only [Act.put, List.setIfInBounds_toArray, List.set_cons_zero, List.set_cons_succ]
              have HB14 := Lib.hid (And.intro hb13 (And.intro kd13 (And.intro md13 (And.intro xs13 (And.intro c4_13 (And.intro p3_13 (And.intro p6_13 (h6_13))))))))
              clear hb13 kd13 md13 xs13 c4_13 p3_13 p6_13 h6_13
              refine wpAnyH_ready (rs := [7]) (by kernel_rfl) (by simp) ?_
              refine AllReadyH.cons (o := ⟨_, _, _, _, _, _⟩) rfl (fun KK hKK => ?_) AllReadyH.nil
              go_simp
              refine (add_grew (HG0.out.1.below HB14.out.1) (Nat.le_trans HG0.out.2.size HB14.out.1.size) (by have := HLN.out.2.2; omega) HB14.out.2.2.2.2.1 (InsG.one HB14.out.2.2.2.2.2.2.1 HKI.out (HFR.out _ HB14.out.2.2.2.2.2.2.2)) HPF.out.1 HPF.out.2).mono ?_
              rintro e w2 ⟨rfl, K1, PS1, RJ1, hd1, hG, hT, hO⟩
              dsimp only
              have hfin : Hid (∃ K1 PS1 RJ1 hd1, Grew w.heap.size sb hb tb rb (List.replicate L.length false) L.length γ.K γ.PS γ.hd (fun v => o ≠ 1 ∧ v = ⟨kz ++ mz, [(k : Int)]⟩) 1 W w2 K1 PS1 RJ1 hd1 ∧ Off (fun g => γ.K g ≠ .other) wc w2 ∧ InsG K1 w2 K7 c7 kz ∧ InsG K1 w2 A8 c8 mz) := Lib.hid ⟨K1, PS1, RJ1, hd1, hG.same (fun v => by rw [← HAZ.out]; exact ⟨fun h => h.elim False.elim (fun e => ⟨HO1.out, e⟩), fun h => .inr h.2⟩), Off.trans (Off.of_below (S := fun _ => False) HB14.out.1) hO (fun _ _ h => h.elim) (fun _ _ h => h), HB14.out.2.1.off hO hT, HB14.out.2.2.1.off hO hT⟩
              refine hKK.out _ _ (cell_off hO HI.out.1.ts HB14.out.2.2.2.1) (fun hHeld2 => ?_)
              clear hKK KK hHeld
              have hHeld := hHeld2
              clear hHeld2
              try simp only [Act.put, List.setIfInBounds_toArray, List.set_cons_zero, List.set_cons_succ]
              clear hG hT hO hHeld
              refine wpAnyH_done (by kernel_rfl) ?_ _
              refine NormalOnly.intro ?_
              gi_wp2_with fail
              gi_meet
              exact ⟨rfl, hfin⟩
        case rest =>
          obtain ⟨rfl, H8⟩ := hcut
          obtain ⟨K1, PS1, RJ1, hd1, hG1, hO1, hkk1, hmm1⟩ := H8.out
          have xs8 := cell_off hO1 HI.out.1.ts xs1
          have x48 := cell_off hO1 HI.out.1.t4 x41
          have b08 := cell_off hO1 HI.out.2.2.2.1 b01
          have HFR1 : Hid (∀ g, wc.heap.size ≤ g → K1 g = .other) := Lib.hid fun g hg => hG1.sch.far g hg
          have HT1 : Hid (K1 Bs = .other ∧ K1 (z0 + 1) = .other ∧ K1 Bx = .other) := Lib.hid ⟨hG1.tag _ (Array.getElem?_eq_some_iff.1 HI.out.1.hs).1 HI.out.1.ts, hG1.tag _ (Array.getElem?_eq_some_iff.1 HI.out.1.h4).1 HI.out.1.t4, hG1.tag _ (Array.getElem?_eq_some_iff.1 HI.out.2.2.1).1 HI.out.2.2.2.1⟩
          have hsz8 : w.heap.size ≤ wc.heap.size := Nat.le_trans HI.out.1.bel.size hG1.off.size
          have hps8 : PS1.length ≤ 9000 := by have := hG1.cnt; have := HLN.out.2.2; omega
          have HG1 := Lib.hid (And.intro hG1 (And.intro hkk1 (And.intro hmm1 (And.intro hsz8 hps8))))
          clear hG1 hO1 hkk1 hmm1 hsz8 hps8 xs1 x41 b01 H8
          gi_upto_if 48 with fail
          gi_cut [3] from 48 (fun s3 wx => s3 = .pointer (some ⟨Bs, 0, none⟩) ∧ Hid (∃ K2 PS2 RJ2 hd2, Grew w.heap.size sb hb tb rb (List.replicate L.length false) L.length γ.K γ.PS γ.hd (fun v => (o ≠ 1 ∧ v = ⟨kz ++ mz, [(k : Int)]⟩) ∨ (o = 4 ∧ v = ⟨[(k : Int), kz.getD 0 0], mz⟩)) 2 W wx K2 PS2 RJ2 hd2 ∧ Off (fun g => K1 g ≠ .other) wc wx ∧ InsG K2 wx K7 c7 kz))
          case first =>
            by_cases ho4 : o = 4
            · have hob : (o == 4) = true := by rw [ho4]; rfl
              rw [hob]
              have hlk := HK4.out ho4
              obtain ⟨g7, off7, e7, hl7, hc7⟩ := HG1.out.2.1.ins.2.2 (by omega)
              obtain ⟨q0, hq0⟩ : ∃ z, kz.getD 0 0 = z := ⟨_, rfl⟩
              have c70 : wc.cell? ⟨g7, off7, none⟩ = some (.int .i64 q0) := by rw [← hq0]; exact hc7 0 (by omega)
              have hq0i : I64 q0 := HG1.out.2.1.ins.2.1 _ (by rw [← hq0, List.getD_eq_getElem?_getD, List.getElem?_eq_getElem (by omega)]; exact List.getElem_mem _)
              have hpos := HPOS.out ⟨[(k : Int), kz.getD 0 0], mz⟩ (by rw [HBM.out, if_pos ho4]; simp)
              rw [hq0] at hpos
              have H7 := Lib.hid (And.intro hpos (And.intro hq0i (And.intro hq0 (And.intro e7 ho4))))
              have i71 : (0 : Int) < (kz.length : Int) := by omega
              have i72 : 0 < kz.length := by omega
              have k7o : K1 g7 = .other := HG1.out.2.1.far i72 g7 off7 e7
              have HK7 := Lib.hid k7o
              subst e7
              clear hpos hq0i hl7 hc7 hlk ho4 hob hq0 k7o b08
              gi_wp2_with fail
              try dsimp only
              refine wpIn_round_held (S := fun wx : World => wx.cell? ⟨Bs, 0, none⟩ = some (.pointer (some ⟨sb, 0, none⟩)) ∧ wx.cell? ⟨g7, off7, none⟩ = some (.int .i64 q0)) mixed (by kernel_rfl) ⟨xs8, c70⟩ (fun hHeld => ?_)
              have hbd := below_drew wc
              obtain ⟨wd, hwd⟩ : ∃ x, wc.drew = x := ⟨_, rfl⟩
              rw [hwd] at hHeld hbd ⊢
              clear hwd
              (refine wpAnyH_take (i := 0) (oi := ⟨_, _, _, _, _, _⟩) (v := ?_) rfl (by kernel_rfl) (by kernel_rfl) (by kernel_rfl) (fun _ _ _ h => h) (Or.inl ⟨by rfl, ?_⟩) (by assumption) ?_; rotate_left; focus (intro wS hSw; (first | obtain ⟨c1, c2⟩ := hSw | skip); go_simp; (try with_reducible rfl); done); (try simp only [Act.put, List.setIfInBounds_toArray, List.set_cons_zero, List.set_cons_succ]))
              (refine wpAnyH_take (i := 1) (oi := ⟨_, _, _, _, _, _⟩) (v := ?_) rfl (by kernel_rfl) (by kernel_rfl) (by kernel_rfl) (fun _ _ _ h => h) (Or.inl ⟨by rfl, ?_⟩) (by assumption) ?_; rotate_left; focus (intro wS hSw; (first | obtain ⟨c1, c2⟩ := hSw | skip); go_simp; (try with_reducible rfl); done); (try simp only [Act.put, List.setIfInBounds_toArray, List.set_cons_zero, List.set_cons_succ]))
              (refine wpAnyH_take (i := 2) (oi := ⟨_, _, _, _, _, _⟩) (v := ?_) rfl (by kernel_rfl) (by kernel_rfl) (by kernel_rfl) (fun _ _ _ h => h) (Or.inl ⟨by rfl, ?_⟩) (by assumption) ?_; rotate_left; focus (intro wS hSw; (first | obtain ⟨c1, c2⟩ := hSw | skip); go_simp; (try with_reducible rfl); done); (try simp only [Act.put, List.setIfInBounds_toArray, List.set_cons_zero, List.set_cons_succ]))
              (refine wpAnyH_take (i := 3) (oi := ⟨_, _, _, _, _, _⟩) (v := ?_) rfl (by kernel_rfl) (by kernel_rfl) (by kernel_rfl) (fun _ _ _ h => h) (Or.inl ⟨by rfl, ?_⟩) (by assumption) ?_; rotate_left; focus (intro wS hSw; (first | obtain ⟨c1, c2⟩ := hSw | skip); go_simp; (try with_reducible rfl); done); (try simp only [Act.put, List.setIfInBounds_toArray, List.set_cons_zero, List.set_cons_succ]))
              (refine wpAnyH_take (i := 4) (oi := ⟨_, _, _, _, _, _⟩) (v := ?_) rfl (by kernel_rfl) (by kernel_rfl) (by kernel_rfl) (fun _ _ _ h => h) (Or.inl ⟨by rfl, ?_⟩) (by assumption) ?_; rotate_left; focus (intro wS hSw; (first | obtain ⟨c1, c2⟩ := hSw | skip); go_simp; (try with_reducible rfl); done); (try simp only [Act.put, List.setIfInBounds_toArray, List.set_cons_zero, List.set_cons_succ]))
              (refine wpAnyH_take (i := 6) (oi := ⟨_, _, _, _, _, _⟩) (v := ?_) rfl (by kernel_rfl) (by kernel_rfl) (by kernel_rfl) (fun _ _ _ h => h) (Or.inl ⟨by rfl, ?_⟩) (by assumption) ?_; rotate_left; focus (intro wS hSw; (first | obtain ⟨c1, c2⟩ := hSw | skip); go_simp; (try with_reducible rfl); done); (try simp only [Act.put, List.setIfInBounds_toArray, List.set_cons_zero, List.set_cons_succ]))
              refine wpAnyH_ready (rs := [5]) (by kernel_rfl) (by simp) ?_
              refine AllReadyH.cons (o := ⟨_, _, _, _, _, _⟩) rfl (fun KK hKK => ?_) AllReadyH.nil
              go_simp
              have hn := below_new wd (.cells #[.int .i64 (k : Nat), .int .i64 q0] 3)
              have q5 := heap_new_ wd (.cells #[.int .i64 (k : Nat), .int .i64 q0] 3)
              obtain ⟨W5, hW5⟩ : ∃ x, wd.alloc (.cells #[.int .i64 (k : Nat), .int .i64 q0] 3) = x := ⟨_, rfl⟩
              rw [hW5] at hn q5 ⊢
              clear hW5
              have hb5 := blw hbd hn
              have md5 := HG1.out.2.2.1.below hb5
              have kd5 := HG1.out.2.1.below hb5
              have HQ5 := Lib.hid (And.intro q5 (And.intro hb5 (And.intro md5 (And.intro kd5 hbd.size))))
              refine hKK.out _ _ ⟨cell_on hb5 xs8, cell_on hb5 c70⟩ (fun hHeld2 => ?_)
              clear hKK KK hHeld
              have hHeld := hHeld2
              clear hHeld2
              try simp only [Act.put, List.setIfInBounds_toArray, List.set_cons_zero, List.set_cons_succ]
              clear hn q5 hb5 md5 kd5 hbd
              refine wpAnyH_ready (rs := [7]) (by kernel_rfl) (by simp) ?_
              refine AllReadyH.cons (o := ⟨_, _, _, _, _, _⟩) rfl (fun KK hKK => ?_) AllReadyH.nil
              go_simp
              refine (add_grew (HG1.out.1.below HQ5.out.2.1) (Nat.le_trans HG1.out.2.2.2.1 HQ5.out.2.1.size) (by have := HG1.out.2.2.2.2; omega) (InsG.two HQ5.out.1 HKI.out H7.out.2.1 (HFR1.out _ HQ5.out.2.2.2.2)) HQ5.out.2.2.1 H7.out.1 (by simp)).mono ?_
              rintro e w2 ⟨rfl, K2, PS2, RJ2, hd2, hG, hT, hO⟩
              dsimp only
              have hfin : Hid (∃ K2 PS2 RJ2 hd2, Grew w.heap.size sb hb tb rb (List.replicate L.length false) L.length γ.K γ.PS γ.hd (fun v => (o ≠ 1 ∧ v = ⟨kz ++ mz, [(k : Int)]⟩) ∨ (o = 4 ∧ v = ⟨[(k : Int), kz.getD 0 0], mz⟩)) 2 W w2 K2 PS2 RJ2 hd2 ∧ Off (fun g => K1 g ≠ .other) wc w2 ∧ InsG K2 w2 (some ⟨g7, off7, none⟩) c7 kz) := Lib.hid ⟨K2, PS2, RJ2, hd2, hG.same (fun v => by rw [H7.out.2.2.1]; exact ⟨fun h => h.imp id (fun e => ⟨H7.out.2.2.2.2, e⟩), fun h => h.imp id (fun e => e.2)⟩), Off.trans (Off.of_below (S := fun _ => False) HQ5.out.2.1) hO (fun _ _ h => h.elim) (fun _ _ h => h), HQ5.out.2.2.2.1.off hO hT⟩
              have xs9 := cell_off hO HT1.out.1 (cell_on HQ5.out.2.1 xs8)
              have c79 := cell_off hO HK7.out (cell_on HQ5.out.2.1 c70)
              refine hKK.out _ _ ⟨xs9, c79⟩ (fun hHeld2 => ?_)
              clear hKK KK hHeld
              have hHeld := hHeld2
              clear hHeld2
              try simp only [Act.put, List.setIfInBounds_toArray, List.set_cons_zero, List.set_cons_succ]
              clear hG hT hO hHeld xs9 c79 xs8 c70
              refine wpAnyH_done (by kernel_rfl) ?_ _
              refine NormalOnly.intro ?_
              gi_wp2_with fail
              gi_meet
              exact ⟨rfl, hfin⟩
            · have hob : (o == 4) = false := by simp [ho4]
              rw [hob]
              have HO4 := Lib.hid ho4
              clear ho4 hob
              gi_wp2_with fail
              gi_meet
              exact ⟨rfl, Lib.hid ⟨_, _, _, _, (HG1.out.1.more (by decide)).same (fun v => ⟨fun h => .inl h, fun h => h.elim id (fun e => absurd e.1 HO4.out)⟩), Off.refl _ _, HG1.out.2.1⟩⟩
          case rest =>
            obtain ⟨rfl, H10⟩ := hcut
            obtain ⟨K2, PS2, RJ2, hd2, hG2, hO2, hkk2⟩ := H10.out
            have x49 := cell_off hO2 HT1.out.2.1 x48
            have b09 := cell_off hO2 HT1.out.2.2 b08
            have HG2 := Lib.hid (And.intro hG2 hkk2)
            have hown := map_same HI.out.1.map (hG2.off.block z0 HI.out.1.map.lt (fun e => e HI.out.1.tm))
            have HOWN := Lib.hid hown
            clear hG2 hkk2 hO2 xs8 x48 b08 hown H10
            gi_upto_if 59 with fail
            have HBS : Hid (wL.heap.size = z0 + 1 + 1 + 1) := Lib.hid (HBv.out.2.1.trans (by rw [HZ0.out]))
            by_cases ho7 : o = 7
            · have hob : (o == 7) = true := by rw [ho7]; rfl
              rw [hob]
              have HPW := Lib.hid (HP7.out ho7)
              clear hob ho7
              gi_wp2_with fail
              try dsimp only
              refine wpIn_round_held (S := fun wx : World => wx.cell? ⟨z0 + 1, 0, none⟩ = some (.map (some z0))) mixed (by kernel_rfl) x49 (fun hHeld => ?_)
              have hbd := below_drew wc
              obtain ⟨wd, hwd⟩ : ∃ x, wc.drew = x := ⟨_, rfl⟩
              rw [hwd] at hHeld hbd ⊢
              clear hwd
              (refine wpAnyH_take (i := 0) (oi := ⟨_, _, _, _, _, _⟩) (v := ?_) rfl (by kernel_rfl) (by kernel_rfl) (by kernel_rfl) (fun _ _ _ h => h) (Or.inl ⟨by rfl, ?_⟩) (by assumption) ?_; rotate_left; focus (intro wS hSw; (first | have c1 := hSw | skip); go_simp; (try with_reducible rfl); done); (try simp only [Act.put, List.setIfInBounds_toArray, List.set_cons_zero, List.set_cons_succ]))
              (refine wpAnyH_take (i := 1) (oi := ⟨_, _, _, _, _, _⟩) (v := ?_) rfl (by kernel_rfl) (by kernel_rfl) (by kernel_rfl) (fun _ _ _ h => h) (Or.inl ⟨by rfl, ?_⟩) (by assumption) ?_; rotate_left; focus (intro wS hSw; (first | have c1 := hSw | skip); go_simp; (try with_reducible rfl); done); (try simp only [Act.put, List.setIfInBounds_toArray, List.set_cons_zero, List.set_cons_succ]))
              (refine wpAnyH_take (i := 3) (oi := ⟨_, _, _, _, _, _⟩) (v := ?_) rfl (by kernel_rfl) (by kernel_rfl) (by kernel_rfl) (fun _ _ _ h => h) (Or.inl ⟨by rfl, ?_⟩) (by assumption) ?_; rotate_left; focus (intro wS hSw; (first | have c1 := hSw | skip); go_simp; (try with_reducible rfl); done); (try simp only [Act.put, List.setIfInBounds_toArray, List.set_cons_zero, List.set_cons_succ]))
              refine wpAnyH_ready (rs := [2]) (by kernel_rfl) (by simp) ?_
              refine AllReadyH.cons (o := ⟨_, _, _, _, _, _⟩) rfl (fun KK hKK => ?_) AllReadyH.nil
              go_simp
              have hpw := powerOf_any K7 kz.length c7 kz wd (HG2.out.2.below hbd).ins HG2.out.2.lc (by have := HG2.out.2.cm; unfold maxLen at this; omega) (by have := HLN.out.1; omega)
              refine hpw.mono ?_
              clear hpw
              rintro e w2 ⟨rfl, hw2⟩
              dsimp only
              have hb2 := blw hbd hw2
              obtain ⟨W3, hrun, hown3, hgr⟩ := map_put HV.out.2.2.2.1 (map_same HOWN.out (hb2.block z0 HOWN.out.lt)) (by have := HI.out.2.2.2.2.2.2.2.1; have := HV.out.2.2.2.1.len; unfold maxLen; omega) (HPW.out.fits HV.out.2.2.2.1) (by have := HI.out.2.2.2.2.2.2.2.1; have := HV.out.2.2.2.1.len; omega : k ≤ 4096)
              have x42 := cell_on hb2 x49
              have x43 : W3.cell? ⟨z0 + 1, 0, none⟩ = some (.map (some z0)) := (cell_same (hgr.block _ (block_lt_of_cell x42) (by simp))).trans x42
              have HM3 := Lib.hid (And.intro hb2 (And.intro hown3 hgr))
              refine hKK.out _ _ x42 (fun hHeld2 => ?_)
              clear hKK KK hHeld
              have hHeld := hHeld2
              clear hHeld2
              try simp only [Act.put, List.setIfInBounds_toArray, List.set_cons_zero, List.set_cons_succ]
              clear hb2 hown3 hgr hw2 hbd x42 x49
              refine wpAnyH_ready (rs := [4]) (by kernel_rfl) (by simp) ?_
              refine AllReadyH.cons (o := ⟨_, _, _, _, _, _⟩) rfl (fun KK hKK => ?_) AllReadyH.nil
              go_simp
              refine hKK.out _ _ x43 (fun hHeld2 => ?_)
              clear hKK KK hHeld
              have hHeld := hHeld2
              clear hHeld2
              try simp only [Act.put, List.setIfInBounds_toArray, List.set_cons_zero, List.set_cons_succ]
              clear hHeld x43 hrun
              refine wpAnyH_done (by kernel_rfl) ?_ _
              refine NormalOnly.intro ?_
              have hfin := Lib.hid (HI.out.1.nextPow HV.out.2.2.2.1 (HG2.out.1.below HM3.out.1) (Nat.le_refl _) (fun v => by rw [HBM.out]; exact base_iff) HPW.out HM3.out.2.1 HM3.out.2.2)
              gi_wp2_with fail
              skip
              exact ⟨by first | (rw [HBS.out]; exact hfin.out.2) | (rw [HZ0.out]; exact hfin.out.2), _, hfin.out.1⟩
            · have hob : (o == 7) = false := by simp [ho7]
              rw [hob]
              have hfin := Lib.hid (HI.out.1.next HG2.out.1 (Nat.le_refl _) (fun v => by rw [HBM.out]; exact base_iff) (HN7.out ho7))
              clear hob ho7
              gi_wp2_with fail
              exact ⟨by first | (rw [HBS.out]; exact hfin.out.2) | (rw [HZ0.out]; exact hfin.out.2), _, hfin.out.1⟩
    case done =>
      intro D0 γ W hD0 hI hdf
      obtain ⟨z0, hz0⟩ : ∃ x, wc.heap.size = x := ⟨_, rfl⟩
      rw [hz0] at hI ⊢
      have hg0 := Grew.start hI.sch hI.ok hI.len
      have T := HV.out.2.2.2.1
      have x4 : W.cell? ⟨z0 + 1, 0, none⟩ = some (.map (some z0)) := (Lib.cell_of_heap hI.h4 _).trans rfl
      have xs : W.cell? ⟨Bs, 0, none⟩ = some (.pointer (some ⟨sb, 0, none⟩)) := (Lib.cell_of_heap hI.hs _).trans rfl
      have mixed : Tryz.prog.follows Departure.mixedOrders = true := by kernel_rfl
      have hlen := T.len
      have hloD : w.heap.size ≤ D0 := by have := hI.mlo; omega
      have HI := Lib.hid (And.intro hI (And.intro hg0 (And.intro hdf (And.intro hloD hlen))))
      have HZ0 := Lib.hid hz0
      have HT := Lib.hid T
      clear hg0 hdf hI hz0 T hlen hloD hD0 HR0 HWL hsL HBv q1 q1l
      go_wp2_with (first | (at_range; refine wpList_range_own _ rfl _ _ rfl _ _ Tryz.lawPow Tryz.underlying86 (plainElem Tryz.prog 3) z0 L.length γ.D rfl HI.out.1.map ?_; intro w0 hrg0 hg0 hs0) | fail)
      have hr0 := Lib.hid (And.intro hrg0 (And.intro hg0 hs0))
      clear hrg0 hg0 hs0 x4 xs
      go_frame
      go_loopg [10] (L.length + 1) (fun gk s10 wx => ∃ (left : Lit → Bool) (cnt c : Nat) (K' : Nat → Tag) (PS' : List Plc) (RJ' : Nat → List Nat) (hd' : List Bool), cnt < gk ∧ Hid (wx.ranges Tryz.prog 95 (plainElem Tryz.prog 3) z0 W.heap.size L.length γ.D left cnt ∧ (∀ kl, left kl = true → Maps.has γ.D kl = true) ∧ c + 16 * cnt ≤ 16 * L.length ∧ Grew w.heap.size sb hb tb rb (List.replicate L.length false) L.length γ.K γ.PS γ.hd (gonePow L left) c W wx K' PS' RJ' hd'))
      case atStart =>
        have hsz := HI.out.1.map.size_le
        exact ⟨Maps.has γ.D, Maps.size γ.D, 0, γ.K, γ.PS, γ.RJ, γ.hd, by omega, Lib.hid ⟨hr0.out.1, fun _ h => h, by omega, (HI.out.2.1.grown hr0.out.2.1 (fun r e => by cases e)).same fun v => ⟨fun h => h.elim, fun h => gone_none HI.out.1.pm v h⟩⟩⟩
      case round =>
        obtain ⟨left, cnt, c, K', PS', RJ', hd', hcn, HR⟩ := hrel
        clear hr0
        have HCN := Lib.hid hcn
        clear hcn
        go_wp2_with (first | (at_next; refine wpl_next_pow _ HT.out rfl (.tmp 65) rfl z0 W.heap.size L.length γ.D left cnt rfl HR.out.1 HR.out.2.1 HI.out.1.pm ?_ ?_) | fail)
        · intro hc0 hl0
          have hG := HR.out.2.2.2.same (gone_all hl0)
          have hrd : RdEnd w L sb hb tb rb K' PS' RJ' hd' wr := by
            refine ⟨hG.sch, hG.ok, hG.len, ?_, ?_, HI.out.1.bel.trans (hG.off.below (fun g hg => HI.out.1.sch.near g hg) HI.out.1.bel.size)⟩
            · have h1 := hG.cnt
              have h2 := HI.out.1.cnt
              have h3 := HR.out.2.2.1
              have h4 := HI.out.2.2.2.2
              omega
            · exact (hG.adds _ HI.out.1.adds).same fun v => Iff.rfl
          have hkD : γ.K D0 = .other := HI.out.1.free HI.out.2.2.1 rfl
          have hdr := (hG.off.block D0 (Array.getElem?_eq_some_iff.1 HI.out.2.2.1).1 (fun e => e hkD)).trans HI.out.2.2.1
          have xs1 := cell_off hG.off HI.out.1.ts (show W.cell? ⟨Bs, 0, none⟩ = some (.pointer (some ⟨sb, 0, none⟩)) from (Lib.cell_of_heap HI.out.1.hs _).trans rfl)
          have HE := Lib.hid (And.intro hrd hdr)
          clear hG hrd hkD hdr hl0
          go_wp2_with fail
          refine leaves_marks (fun W' => RdEnd w L sb hb tb rb K' PS' RJ' hd' W') w.heap.size (RdEnd.own w L sb hb tb rb K' PS' RJ' hd') _ _ HE.out.1 (fun d hd => ⟨D0, List.mem_singleton.1 hd, HI.out.2.2.2.1⟩) (by simp) (fun D hD => ?_) (fun w' hw' => ?_)
          · have e := List.mem_singleton.1 hD
            cases e
            exact HE.out.2
          · unfold LeavesIn
            refine ⟨_, results_tmp rfl _ _ _, ?_⟩
            exact ⟨sb, hb, tb, rb, K', PS', RJ', hd', rfl, hw'.sch, hw'.ok, hw'.len, hw'.few, hw'.adds, hw'.bel⟩
        · intro l m w1 cnt1 hlm hrg1 hlt hg1 hs1 hen
          have hlf := hlm.2.fits HT.out
          obtain ⟨mm, d, ks, hmn, hkl⟩ := hlm.2
          obtain ⟨robj, hro, hroc⟩ := (ranges_obj HR.out.1).2
          have hG1 := HR.out.2.2.2.grown hg1 (fun r e => by cases e; exact ⟨Nat.le_refl _, robj, hro, hroc⟩)
          have hmn96 : m < L.length := hlm.1
          obtain ⟨x0, hx0⟩ : ∃ x, l.getD 0 0 = x := ⟨_, rfl⟩
          obtain ⟨x1, hx1⟩ : ∃ x, l.getD 1 0 = x := ⟨_, rfl⟩
          obtain ⟨x2, hx2⟩ : ∃ x, l.getD 2 0 = x := ⟨_, rfl⟩
          obtain ⟨x3, hx3⟩ : ∃ x, l.getD 3 0 = x := ⟨_, rfl⟩
          obtain ⟨nl, hnl⟩ : ∃ x, l.length = x := ⟨_, rfl⟩
          have hpk : pkV l.length l = #[.int .i64 (nl : Nat), .int .i64 x0, .int .i64 x1, .int .i64 x2, .int .i64 x3] := by unfold pkV; rw [hx0, hx1, hx2, hx3, hnl]
          rw [hpk] at hen ⊢
          have n4 : nl ≤ 4 := by have := hlf.2; omega
          have HL := Lib.hid (And.intro hlm (And.intro hlf (And.intro hmn (And.intro hkl (And.intro hnl (And.intro hpk hmn96))))))
          have HX := Lib.hid (And.intro hG1 (And.intro hrg1 (And.intro hlt (And.intro hs1 (And.intro (ranges_obj hrg1).1 (ranges_obj hrg1).2)))))
          clear hlm hlf hmn hkl hro hroc hG1 hmn96 hx0 hx1 hx2 hx3 hnl hpk hrg1 hlt hg1 hs1
          go_upto_region 16 with fail
          have hnp := below_new w1 (.cells #[.int .i64 (nl : Nat), .int .i64 x0, .int .i64 x1, .int .i64 x2, .int .i64 x3] 95)
          have hq := heap_new_ w1 (.cells #[.int .i64 (nl : Nat), .int .i64 x0, .int .i64 x1, .int .i64 x2, .int .i64 x3] 95)
          obtain ⟨Wp, hWp⟩ : ∃ x, w1.alloc (.cells #[.int .i64 (nl : Nat), .int .i64 x0, .int .i64 x1, .int .i64 x2, .int .i64 x3] 95) = x := ⟨_, rfl⟩
          rw [hWp] at hnp hq ⊢
          clear hWp
          obtain ⟨pb, hpb⟩ : ∃ x, w1.heap.size = x := ⟨_, rfl⟩
          rw [hpb] at hq ⊢
          have hG := HX.out.1.below hnp
          have hKp : K' pb = .other := HX.out.1.sch.far pb (by omega)
          obtain ⟨mo, hmo, hmoc⟩ := HX.out.2.2.2.2.1
          obtain ⟨ro, hro, hroc⟩ := HX.out.2.2.2.2.2
          have hKz := HX.out.1.free hmo hmoc
          have hKr := HX.out.1.free hro hroc
          have hmz := heap_on hnp hmo
          have hmr := heap_on hnp hro
          have xsW : W.cell? ⟨Bs, 0, none⟩ = some (.pointer (some ⟨sb, 0, none⟩)) := (Lib.cell_of_heap HI.out.1.hs _).trans rfl
          have x4W : W.cell? ⟨z0 + 1, 0, none⟩ = some (.map (some z0)) := (Lib.cell_of_heap HI.out.1.h4 _).trans rfl
          have xs := cell_off hG.off HI.out.1.ts xsW
          have x4 := cell_off hG.off HI.out.1.t4 x4W
          have px : Wp.cell? ⟨pb, 0, none⟩ = some (.int .i64 (nl : Nat)) := (Lib.cell_of_heap hq _).trans rfl
          have hins : Ins Wp (some ⟨pb, 1, none⟩) nl (kidsN L ks) := by
            have h1 := ins_pk (w := Wp) (pb := pb) (l := l) (T := 95) (by rw [HL.out.2.2.2.2.2.1]; exact hq) HL.out.2.1.1 HL.out.2.1.2
            rw [HL.out.2.2.2.2.1] at h1
            rw [HL.out.2.2.2.1]
            exact h1
          have hown := map_same HX.out.2.1.owns (hmz.trans hmo.symm)
          have hps : PS'.length + 16 < 100000 := by
            have h1 := hG.cnt
            have h2 := HI.out.1.cnt
            have h3 := HR.out.2.2.1
            have h4 := HI.out.2.2.2.2
            omega
          have htd : ∀ n, (List.replicate L.length false).getD n false = false := fun n => by
            rw [List.getD_eq_getElem?_getD, List.getElem?_replicate]
            split <;> rfl
          have hn0 : w.heap.size ≤ Wp.heap.size := Nat.le_trans HI.out.1.bel.size hG.off.size
          have hcall : ∀ W', Below Wp.heap.size Wp W' → Calls Tryz.prog 56 #[.pointer (some ⟨sb, 0, none⟩), .map (some z0), .int .i64 (m : Nat), .slice (some ⟨pb, 1, none⟩) nl 4] W' fun e w2 => e = .returned (.tuple #[]) ∧ ∃ K2 PS2 RJ2 hd2, Grew w.heap.size sb hb tb rb (List.replicate L.length false) L.length K' PS' hd' (fun v => ∃ c, PowW L m c v) 16 W' w2 K2 PS2 RJ2 hd2 := fun W' hb' =>
            addPowers_any HT.out (hG.sch.below hb') (Nat.le_trans hn0 hb'.size) hG.ok hG.len hps htd z0 L.length γ.D HI.out.1.pm (map_same hown (hb'.block z0 hown.lt)) hKz m mm d ks HL.out.2.2.1 (some ⟨pb, 1, none⟩) nl 4 (hins.below hb') n4 (by decide) (fun _ g off e => by cases e; exact hKp)
          have HC := Lib.hid (And.intro hcall (And.intro hG (And.intro hKp (And.intro hKz (And.intro hKr (And.intro hmz hmr))))))
          have HO := Lib.hid (And.intro hmo (And.intro hro (And.intro xsW x4W)))
          have i1 : (0 : Int) ≤ (nl : Int) := by omega
          have i2 : (nl : Int) ≤ 4 := by omega
          obtain ⟨gk', rfl⟩ : ∃ g', gk = g' + 1 := ⟨gk - 1, by have := HCN.out; omega⟩
          have HCN2 : Hid (cnt1 < gk') := Lib.hid (by have := HCN.out; have := HX.out.2.2.1; omega)
          clear hcall hG hKp hKz hKr hmz hmr hmo hro hmoc hroc xsW x4W hins hown hps htd hn0 hnp hq hpb hen
          try dsimp only
          refine wp_region_noPanic ?_
          refine wp_region_held_drew (S := fun wx : World => wx.cell? ⟨Bs, 0, none⟩ = some (.pointer (some ⟨sb, 0, none⟩)) ∧ wx.cell? ⟨z0 + 1, 0, none⟩ = some (.map (some z0)) ∧ wx.cell? ⟨pb, 0, none⟩ = some (.int .i64 (nl : Nat))) mixed ⟨xs, x4, px⟩ (fun hHeld => ?_)
          have hbd := below_drew Wp
          obtain ⟨wd, hwd⟩ : ∃ x, Wp.drew = x := ⟨_, rfl⟩
          rw [hwd] at hHeld hbd ⊢
          clear hwd
          (refine wpAnyH_take (i := 0) (oi := ⟨_, _, _, _, _, _⟩) (v := ?_) rfl (by kernel_rfl) (by kernel_rfl) (by kernel_rfl) (fun _ _ _ h => h) (Or.inl ⟨by rfl, ?_⟩) (by assumption) ?_; rotate_left; focus (intro wS hSw; (first | obtain ⟨c1, c2, c3⟩ := hSw | skip); go_simp; (try with_reducible rfl); done); (try simp only [Act.put, List.setIfInBounds_toArray, List.set_cons_zero, List.set_cons_succ]))
          (refine wpAnyH_take (i := 1) (oi := ⟨_, _, _, _, _, _⟩) (v := ?_) rfl (by kernel_rfl) (by kernel_rfl) (by kernel_rfl) (fun _ _ _ h => h) (Or.inl ⟨by rfl, ?_⟩) (by assumption) ?_; rotate_left; focus (intro wS hSw; (first | obtain ⟨c1, c2, c3⟩ := hSw | skip); go_simp; (try with_reducible rfl); done); (try simp only [Act.put, List.setIfInBounds_toArray, List.set_cons_zero, List.set_cons_succ]))
          (refine wpAnyH_take (i := 2) (oi := ⟨_, _, _, _, _, _⟩) (v := ?_) rfl (by kernel_rfl) (by kernel_rfl) (by kernel_rfl) (fun _ _ _ h => h) (Or.inl ⟨by rfl, ?_⟩) (by assumption) ?_; rotate_left; focus (intro wS hSw; (first | obtain ⟨c1, c2, c3⟩ := hSw | skip); go_simp; (try with_reducible rfl); done); (try simp only [Act.put, List.setIfInBounds_toArray, List.set_cons_zero, List.set_cons_succ]))
          (refine wpAnyH_take (i := 3) (oi := ⟨_, _, _, _, _, _⟩) (v := ?_) rfl (by kernel_rfl) (by kernel_rfl) (by kernel_rfl) (fun _ _ _ h => h) (Or.inl ⟨by rfl, ?_⟩) (by assumption) ?_; rotate_left; focus (intro wS hSw; (first | obtain ⟨c1, c2, c3⟩ := hSw | skip); go_simp; (try with_reducible rfl); done); (try simp only [Act.put, List.setIfInBounds_toArray, List.set_cons_zero, List.set_cons_succ]))
          (refine wpAnyH_take (i := 4) (oi := ⟨_, _, _, _, _, _⟩) (v := ?_) rfl (by kernel_rfl) (by kernel_rfl) (by kernel_rfl) (fun _ _ _ h => h) (Or.inl ⟨by rfl, ?_⟩) (by assumption) ?_; rotate_left; focus (intro wS hSw; (first | obtain ⟨c1, c2, c3⟩ := hSw | skip); go_simp; (try with_reducible rfl); done); (try simp only [Act.put, List.setIfInBounds_toArray, List.set_cons_zero, List.set_cons_succ]))
          (refine wpAnyH_take (i := 5) (oi := ⟨_, _, _, _, _, _⟩) (v := ?_) rfl (by kernel_rfl) (by kernel_rfl) (by kernel_rfl) (fun _ _ _ h => h) (Or.inl ⟨by rfl, ?_⟩) (by assumption) ?_; rotate_left; focus (intro wS hSw; (first | obtain ⟨c1, c2, c3⟩ := hSw | skip); go_simp; (try with_reducible rfl); done); (try simp only [Act.put, List.setIfInBounds_toArray, List.set_cons_zero, List.set_cons_succ]))
          (refine wpAnyH_take (i := 6) (oi := ⟨_, _, _, _, _, _⟩) (v := ?_) rfl (by kernel_rfl) (by kernel_rfl) (by kernel_rfl) (fun _ _ _ h => h) (Or.inl ⟨by rfl, ?_⟩) (by assumption) ?_; rotate_left; focus (intro wS hSw; (first | obtain ⟨c1, c2, c3⟩ := hSw | skip); go_simp; (try with_reducible rfl); done); (try simp only [Act.put, List.setIfInBounds_toArray, List.set_cons_zero, List.set_cons_succ]))
          refine wpAnyH_ready (rs := [7]) (by kernel_rfl) (by simp) ?_
          refine AllReadyH.cons (o := ⟨_, _, _, _, _, _⟩) rfl (fun KK hKK => ?_) AllReadyH.nil
          go_simp
          refine (HC.out.1 _ hbd).mono ?_
          rintro e w2 ⟨rfl, K2, PS2, RJ2, hd2, hk2⟩
          dsimp only
          have hG2 := (HC.out.2.1.below hbd).trans hk2
          have ys := cell_off hG2.off HI.out.1.ts HO.out.2.2.1
          have y4 := cell_off hG2.off HI.out.1.t4 HO.out.2.2.2
          have yp := cell_off hk2.off HC.out.2.2.1 (cell_on hbd px)
          have ez := (hk2.off.block z0 (Nat.lt_of_lt_of_le (Array.getElem?_eq_some_iff.1 HC.out.2.2.2.2.2.1).1 hbd.size) (fun e => e HC.out.2.2.2.1)).trans (heap_on hbd HC.out.2.2.2.2.2.1)
          have er := (hk2.off.block W.heap.size (Nat.lt_of_lt_of_le (Array.getElem?_eq_some_iff.1 HC.out.2.2.2.2.2.2).1 hbd.size) (fun e => e HC.out.2.2.2.2.1)).trans (heap_on hbd HC.out.2.2.2.2.2.2)
          have hrn := ranges_same HX.out.2.1 (ez.trans HO.out.1.symm) (er.trans HO.out.2.1.symm)
          have hfin := Lib.hid (And.intro hrn (hG2.same (gone_step HT.out HL.out.1)))
          refine hKK.out _ _ ⟨ys, y4, yp⟩ (fun hHeld2 => ?_)
          clear hKK KK hHeld
          have hHeld := hHeld2
          clear hHeld2
          try simp only [Act.put, List.setIfInBounds_toArray, List.set_cons_zero, List.set_cons_succ]
          clear hG2 ys y4 yp ez er hrn hk2 hbd xs x4 px hHeld
          refine wpAnyH_done (by kernel_rfl) ?_ _
          refine NoPanic.normal ?_
          go_wp2_with fail
          go_roundg gk'
          case measure => omega
          case rel => exact ⟨_, cnt1, c + 16, K2, PS2, RJ2, hd2, HCN2.out, Lib.hid ⟨hfin.out.1, fun kl h => HR.out.2.1 kl (by simp at h; exact h.1), by have := HR.out.2.2.1; have := HX.out.2.2.1; omega, hfin.out.2⟩⟩
end Go.Proofs.YtlhogjigdmpokaaGreatDoor.vtc
