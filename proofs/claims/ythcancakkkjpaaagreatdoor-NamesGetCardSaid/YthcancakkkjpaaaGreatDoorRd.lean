/- The program's checked, and what its makers of nodes share: a node in a result's cells. -/
import Derived.Test.YthcancakkkjpaaaGreatDoorRc
import Derived.Deep.RegionLaw
namespace Go.Proofs.YthcancakkkjpaaaGreatDoor.nmc
open Go.RowKit Go.Proofs.YthcancakkkjpaaaGreatDoor.tlvc Go.Proofs.YthcancakkkjpaaaGreatDoor.tlvd Go.Proofs.YthcancakkkjpaaaGreatDoor.ndc Go.Proofs.YthcancakkkjpaaaGreatDoor.txc Go.Proofs.YthcancakkkjpaaaGreatDoor.txm Go.Proofs.YthcancakkkjpaaaGreatDoor.intc Go.Proofs.YthcancakkkjpaaaGreatDoor.intm
set_option linter.unusedVariables false
set_option linter.unusedSimpArgs false
theorem below_new (w : World) (o : Obj) : Below w.heap.size w (w.alloc o) := (Below.refl _ _).alloc (Nat.le_refl _) _
theorem size_new (w : World) (o : Obj) : (w.alloc o).heap.size = w.heap.size + 1 := by simp
theorem below_then {B : Nat} {w w1 w2 : World} (h : Below B w w1) (k : Below w1.heap.size w1 w2) (hB : B ≤ w.heap.size) : Below B w w2 := h.trans (k.mono (Nat.le_trans hB h.size))
theorem drew_below {w w' : World} (h : Below w.drew.heap.size w.drew w') : Below w.heap.size w w' := ((Below.refl w.heap.size w).drew).trans h
theorem heap_is {W : World} {o : Obj} {k : Nat} (h : k = W.heap.size) : (W.alloc o).heap[k]? = some o := by subst h; exact heap_new_ _ _
/-- Three stores into a block. -/
def set3 (W : World) (b : Nat) (y0 y1 y2 : Value) : World := ((W.setCell ⟨b, 0, none⟩ y0).setCell ⟨b, 1, none⟩ y1).setCell ⟨b, 2, none⟩ y2
theorem set3_size (W : World) (b : Nat) (y0 y1 y2 : Value) : (set3 W b y0 y1 y2).heap.size = W.heap.size := by unfold set3; rw [set_size, set_size, set_size]
theorem set3_other (W : World) (b : Nat) (y0 y1 y2 : Value) {g : Nat} (h : g ≠ b) : (set3 W b y0 y1 y2).heap[g]? = W.heap[g]? := by unfold set3; rw [set_heap_other _ _ _ _ _ h, set_heap_other _ _ _ _ _ h, set_heap_other _ _ _ _ _ h]
theorem set3_box {W : World} {b : Nat} {x0 x1 x2 : Value} {T : TypeId} {fr : Nat × Nat} (h : W.heap[b]? = some (.cells #[x0, x1, x2] T fr)) (y0 y1 y2 : Value) : (set3 W b y0 y1 y2).heap[b]? = some (.cells #[y0, y1, y2] T fr) :=
  set_heap _ _ _ _ _ _ _ (set_heap _ _ _ _ _ _ _ (set_heap _ _ _ _ _ _ _ h))
theorem set3_below {B b : Nat} {w W : World} (hb : B ≤ b) (h : Below B w W) (y0 y1 y2 : Value) : Below B w (set3 W b y0 y1 y2) :=
  ((h.setCell (p := ⟨b, 0, none⟩) hb y0).setCell (p := ⟨b, 1, none⟩) hb y1).setCell (p := ⟨b, 2, none⟩) hb y2
theorem res3 {w W : World} {b : Nat} {x0 x1 x2 y0 y1 y2 : Value} {T : TypeId} {fr : Nat × Nat} (hb : w.heap.size ≤ b) (hB : Below w.heap.size w W) (hres : W.heap[b]? = some (.cells #[x0, x1, x2] T fr)) :
    (((W.setCell ⟨b, 0, none⟩ y0).setCell ⟨b, 1, none⟩ y1).setCell ⟨b, 2, none⟩ y2).cell? ⟨b, 0, none⟩ = some y0 ∧ (((W.setCell ⟨b, 0, none⟩ y0).setCell ⟨b, 1, none⟩ y1).setCell ⟨b, 2, none⟩ y2).cell? ⟨b, 1, none⟩ = some y1 ∧ (((W.setCell ⟨b, 0, none⟩ y0).setCell ⟨b, 1, none⟩ y1).setCell ⟨b, 2, none⟩ y2).cell? ⟨b, 2, none⟩ = some y2 ∧
      Below w.heap.size w (((W.setCell ⟨b, 0, none⟩ y0).setCell ⟨b, 1, none⟩ y1).setCell ⟨b, 2, none⟩ y2) := by
  have hbox := set3_box hres y0 y1 y2
  exact ⟨(Lib.cell_of_heap (w := set3 W b y0 y1 y2) hbox _).trans rfl, (Lib.cell_of_heap (w := set3 W b y0 y1 y2) hbox _).trans rfl, (Lib.cell_of_heap (w := set3 W b y0 y1 y2) hbox _).trans rfl, set3_below hb hB y0 y1 y2⟩
theorem res3_nd {W : World} {b : Nat} {y0 y1 y2 : Value} {n : Nd} {c0 c1 c2 : Value} {S : Nat → Prop} (hS : ∀ g, S g → g ≠ b) (h : NdC S W n c0 c1 c2) :
    NdC S (((W.setCell ⟨b, 0, none⟩ y0).setCell ⟨b, 1, none⟩ y1).setCell ⟨b, 2, none⟩ y2) n c0 c1 c2 :=
  NdC.stays (w' := set3 W b y0 y1 y2) ⟨by rw [set3_size]; exact Nat.le_refl _, fun p hp _ => cell_same (set3_other _ _ _ _ _ (hS _ hp))⟩ _ _ _ _ h
/-- A node, or an error. -/
def NPost (S : Nat → Prop) (w : World) (r : Option Nd) (e : Ending) (w' : World) : Prop :=
  Below w.heap.size w w' ∧ ∃ t A la ca K lk ck er, e = .returned (.tuple #[.agg #[.int .u8 t, .slice A la ca, .slice K lk ck], .int .i64 er]) ∧
    match r with
    | none => er ≠ 0
    | some n => er = 0 ∧ NdC S w' n (.int .u8 t) (.slice A la ca) (.slice K lk ck)
set_option maxRecDepth 100000 in
set_option maxHeartbeats 4000000 in
theorem checked_any (n : Nd) (S : Nat → Prop) (c0 c1 c2 : Value) (w : World) (hn : NdC S w n c0 c1 c2) (hS : ∀ g, S g → g < w.heap.size) (hT : Tabs w) :
    Calls Tryz.prog 34 #[.agg #[c0, c1, c2]] w (NPost S w (checkF n)) := by
  obtain ⟨tk, Ak, lak, cak, Kk, lkk, ckk, ec0, ec1, ec2⟩ := hn.shape
  subst ec0 ec1 ec2
  obtain ⟨W0, hW0⟩ : ∃ x, (w.alloc (.cells #[.int .u8 tk, .slice Ak lak cak, .slice Kk lkk ckk] 25)).alloc (.cells #[.int .u8 0, .slice none 0 0, .slice none 0 0] 25) = x := ⟨_, rfl⟩
  have hb0 : Below w.heap.size w W0 := by rw [← hW0]; exact (below_new _ _).alloc (by simp) _
  have p0 : W0.heap[w.heap.size + 1]? = some (.cells #[.int .u8 0, .slice none 0 0, .slice none 0 0] 25) := by rw [← hW0]; exact heap_is (by simp)
  have q0 : W0.heap[w.heap.size]? = some (.cells #[.int .u8 tk, .slice Ak lak cak, .slice Kk lkk ckk] 25) := by rw [← hW0, heap_old_ _ _ (by simp)]; exact heap_new_ _ _
  have hz0 : W0.heap.size = w.heap.size + 2 := by rw [← hW0]; simp
  have hck : ∀ W, Below w.heap.size w W → Calls Tryz.prog 52 #[.agg #[.int .u8 tk, .slice Ak lak cak, .slice Kk lkk ckk]] W fun e w' => e = .returned (.int .i64 (errW (writeF n 0))) ∧ Below W.heap.size W w' := fun W hW =>
    ndc.check_any n S _ W ⟨_, _, _, rfl, NdC.below hW _ _ _ _ hn⟩ (hT.below hW)
  obtain ⟨R, hR⟩ : ∃ x, checkF n = x := ⟨_, rfl⟩
  rw [hR]
  unfold checkF at hR
  obtain ⟨er, her⟩ : ∃ x, errW (writeF n 0) = x := ⟨_, rfl⟩
  rw [her] at hck hR
  obtain ⟨t0, t1, t2⟩ : W0.cell? ⟨w.heap.size, 0, none⟩ = some (.int .u8 tk) ∧ W0.cell? ⟨w.heap.size, 1, none⟩ = some (.slice Ak lak cak) ∧ W0.cell? ⟨w.heap.size, 2, none⟩ = some (.slice Kk lkk ckk) := ⟨(Lib.cell_of_heap q0 _).trans rfl, (Lib.cell_of_heap q0 _).trans rfl, (Lib.cell_of_heap q0 _).trans rfl⟩
  obtain ⟨s0, s1, s2⟩ : W0.cell? ⟨w.heap.size + 1, 0, none⟩ = some (.int .u8 0) ∧ W0.cell? ⟨w.heap.size + 1, 1, none⟩ = some (.slice none 0 0) ∧ W0.cell? ⟨w.heap.size + 1, 2, none⟩ = some (.slice none 0 0) := ⟨(Lib.cell_of_heap p0 _).trans rfl, (Lib.cell_of_heap p0 _).trans rfl, (Lib.cell_of_heap p0 _).trans rfl⟩
  have f0 := Lib.frozen_of_heap p0 0
  have f1 := Lib.frozen_of_heap p0 1
  have f2 := Lib.frozen_of_heap p0 2
  have hcA := hck W0.drew hb0.drew
  have hW1 := res3 (b := w.heap.size + 1) (y0 := .int .u8 tk) (y1 := .slice Ak lak cak) (y2 := .slice Kk lkk ckk) (by omega) hb0 p0
  have hcB := hck (((W0.setCell ⟨w.heap.size + 1, 0, none⟩ (.int .u8 tk)).setCell ⟨w.heap.size + 1, 1, none⟩ (.slice Ak lak cak)).setCell ⟨w.heap.size + 1, 2, none⟩ (.slice Kk lkk ckk)).drew hW1.2.2.2.drew
  have hA2 : ∀ w2, Below W0.drew.heap.size W0.drew w2 → w2.heap[w.heap.size + 1]? = some (.cells #[.int .u8 0, .slice none 0 0, .slice none 0 0] 25) ∧ w2.heap[w.heap.size]? = some (.cells #[.int .u8 tk, .slice Ak lak cak, .slice Kk lkk ckk] 25) ∧ Below w.heap.size w w2 ∧ Below w.heap.size w (set3 w2 (w.heap.size + 1) (.int .u8 tk) (.slice Ak lak cak) (.slice Kk lkk ckk)) ∧ NdC S (set3 w2 (w.heap.size + 1) (.int .u8 tk) (.slice Ak lak cak) (.slice Kk lkk ckk)) n (.int .u8 tk) (.slice Ak lak cak) (.slice Kk lkk ckk) := fun w2 hb2 => by
    have hb2 := drew_below hb2
    have hbw := below_then hb0 hb2 (Nat.le_refl _)
    exact ⟨(hb2.block _ (by omega)).trans p0, (hb2.block _ (by omega)).trans q0, hbw, set3_below (by omega) hbw _ _ _, res3_nd (fun g hg e => by have := hS g hg; omega) (NdC.below hbw _ _ _ _ hn)⟩
  have hB2 : ∀ w2, Below (((W0.setCell ⟨w.heap.size + 1, 0, none⟩ (.int .u8 tk)).setCell ⟨w.heap.size + 1, 1, none⟩ (.slice Ak lak cak)).setCell ⟨w.heap.size + 1, 2, none⟩ (.slice Kk lkk ckk)).drew.heap.size (((W0.setCell ⟨w.heap.size + 1, 0, none⟩ (.int .u8 tk)).setCell ⟨w.heap.size + 1, 1, none⟩ (.slice Ak lak cak)).setCell ⟨w.heap.size + 1, 2, none⟩ (.slice Kk lkk ckk)).drew w2 → w2.heap[w.heap.size + 1]? = some (.cells #[.int .u8 tk, .slice Ak lak cak, .slice Kk lkk ckk] 25) ∧ Below w.heap.size w w2 ∧ NdC S w2 n (.int .u8 tk) (.slice Ak lak cak) (.slice Kk lkk ckk) := fun w2 hb2 => by
    have hb2 := drew_below hb2
    have hbw := below_then hW1.2.2.2 hb2 (Nat.le_refl _)
    exact ⟨(hb2.block _ (by have := set3_size W0 (w.heap.size + 1) (.int .u8 tk) (.slice Ak lak cak) (.slice Kk lkk ckk); unfold set3 at this; rw [this]; omega)).trans (set3_box p0 _ _ _), hbw, NdC.below hbw _ _ _ _ hn⟩
  have HA := Lib.hid (And.intro hcA hA2)
  have HB := Lib.hid (And.intro hcB hB2)
  have HR := Lib.hid hR
  clear hck hn hS p0 q0 hz0 hb0 her hR hT hcA hcB hA2 hB2 hW1
  go_enter Tryz.func34, Tryz.ntmps34
  go_wp2_with fail
  go_region_law (first | (go_simp; go_at_call 52; refine HA.out.1.mono ?_; rintro e w2 ⟨rfl, hb2⟩; obtain ⟨p1, q1, hbw, hE⟩ := HA.out.2 w2 hb2; clear hb2; obtain ⟨r0, r1, r2, _⟩ := res3 (y0 := .int .u8 tk) (y1 := .slice Ak lak cak) (y2 := .slice Kk lkk ckk) (Nat.le_succ _) hbw p1; have HE := Lib.hid hE; have f0 := Lib.frozen_of_heap p1 0; have f1 := Lib.frozen_of_heap p1 1; have f2 := Lib.frozen_of_heap p1 2; obtain ⟨s0, s1, s2⟩ : w2.cell? ⟨w.heap.size + 1, 0, none⟩ = some (.int .u8 0) ∧ w2.cell? ⟨w.heap.size + 1, 1, none⟩ = some (.slice none 0 0) ∧ w2.cell? ⟨w.heap.size + 1, 2, none⟩ = some (.slice none 0 0) := ⟨(Lib.cell_of_heap p1 _).trans rfl, (Lib.cell_of_heap p1 _).trans rfl, (Lib.cell_of_heap p1 _).trans rfl⟩; obtain ⟨t0, t1, t2⟩ : w2.cell? ⟨w.heap.size, 0, none⟩ = some (.int .u8 tk) ∧ w2.cell? ⟨w.heap.size, 1, none⟩ = some (.slice Ak lak cak) ∧ w2.cell? ⟨w.heap.size, 2, none⟩ = some (.slice Kk lkk ckk) := ⟨(Lib.cell_of_heap q1 _).trans rfl, (Lib.cell_of_heap q1 _).trans rfl, (Lib.cell_of_heap q1 _).trans rfl⟩; clear p1 q1 hbw hE) | (go_simp; go_at_call 52; refine HB.out.1.mono ?_; rintro e w2 ⟨rfl, hb2⟩; obtain ⟨p1, hE⟩ := HB.out.2 w2 hb2; have HE := Lib.hid hE; clear hb2 hE; obtain ⟨r0, r1, r2⟩ : w2.cell? ⟨w.heap.size + 1, 0, none⟩ = some (.int .u8 tk) ∧ w2.cell? ⟨w.heap.size + 1, 1, none⟩ = some (.slice Ak lak cak) ∧ w2.cell? ⟨w.heap.size + 1, 2, none⟩ = some (.slice Kk lkk ckk) := ⟨(Lib.cell_of_heap p1 _).trans rfl, (Lib.cell_of_heap p1 _).trans rfl, (Lib.cell_of_heap p1 _).trans rfl⟩; clear p1))
  all_goals
    go_wp2_with fail
    refine bodyPost_ret (v := .tuple #[.agg #[.int .u8 tk, .slice Ak lak cak, .slice Kk lkk ckk], .int .i64 er]) ?_ rfl ⟨HE.out.1, _, _, _, _, _, _, _, _, rfl, ?_⟩
    · simp [results, Tryz.results34, go_sem, r0, r1, r2]
    · have hr := HR.out
      by_cases h0 : er = 0
      · rw [if_pos h0] at hr
        subst hr
        exact ⟨h0, HE.out.2⟩
      · rw [if_neg h0] at hr
        subst hr
        exact h0
end Go.Proofs.YthcancakkkjpaaaGreatDoor.nmc
