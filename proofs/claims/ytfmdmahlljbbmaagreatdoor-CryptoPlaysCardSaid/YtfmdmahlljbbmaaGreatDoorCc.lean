/- What is done with keys: the program's closures. -/
import Derived.Test.YtfmdmahlljbbmaaGreatDoorCb
import Derived.Deep.RegionLaw
import Derived.StillTailTactics
namespace Go.Proofs.YtfmdmahlljbbmaaGreatDoor.vtc
open Go.RowKit Go.Proofs.YtfmdmahlljbbmaaGreatDoor.tlvc Go.Proofs.YtfmdmahlljbbmaaGreatDoor.tmc
set_option linter.unusedVariables false
theorem cput_any (op : Int) (D : Option Addr) (la ca : Nat) (w : World) : Calls Tryz.prog 33 #[.int .i64 op, .slice D la ca] w fun e w' => ∃ p q, e = .returned (.func (.func 51) #[] #[.pointer (some ⟨p, 0, none⟩), .pointer (some ⟨q, 0, none⟩)]) ∧ w'.cell? ⟨p, 0, none⟩ = some (.int .i64 op) ∧ w'.cell? ⟨q, 0, none⟩ = some (.slice D la ca) ∧ Below w.heap.size w w' := by
  have hmf : ∀ (fn : Fn) (first cap : Array Value) (w : World), (Instr.makeFunc fn first cap).run Tryz.prog w = .ok (.func fn first cap) w := fun _ _ _ _ => rfl
  have h1 := heap_new_ w (.cells #[.int .i64 op] 55)
  have h2 := heap_new_ (w.alloc (.cells #[.int .i64 op] 55)) (.cells #[.slice D la ca] 29)
  have h3 := (heap_old_ (w.alloc (.cells #[.int .i64 op] 55)) (.cells #[.slice D la ca] 29) (k := w.heap.size) (by simp)).trans h1
  rw [show (w.alloc (.cells #[.int .i64 op] 55)).heap.size = w.heap.size + 1 by simp] at h2
  have HE := Lib.hid (And.intro ((Lib.cell_of_heap h3 0).trans rfl : _ = some (Value.int .i64 op)) (And.intro ((Lib.cell_of_heap h2 0).trans rfl : _ = some (Value.slice D la ca)) ((below_new w (.cells #[.int .i64 op] 55)).alloc (by simp) (.cells #[.slice D la ca] 29))))
  clear h1 h2 h3
  go_enter Tryz.func33, Tryz.ntmps33
  go_wp2
  go_ret
  exact ⟨_, _, rfl, HE.out⟩
/-- Kids of a term are terms one behind the other. -/
theorem mk_tm {B : Nat → Prop} {w : World} {op num : Int} (ho : I64 op) (hm : I64 num) {D : Option Addr} {la ca : Nat} {d : List Int} (hd : Bys w D la d) (hlc : la ≤ ca) (hcm : ca ≤ maxLen) (hB : 0 < la → ∀ g off sp, D = some ⟨g, off, sp⟩ → B g) {K : Option Addr} {n c : Nat} {ts : List Tm} (hk : TmsZ B w K ts) (hn : ts.length = n) (hnc : n ≤ c) (hcm2 : c ≤ maxLen) :
    TmC B w (.mk op num d ts) (.int .i64 op) (.int .i64 num) (.slice D la ca) (.slice K n c) := by
  subst hn
  unfold TmC
  refine ⟨rfl, ho, rfl, hm, ⟨D, la, ca, rfl, hlc, hcm, hd, hB⟩, K, c, rfl, hnc, hcm2, fun hpos => ?_⟩
  obtain ⟨g, e, hg, hBg, hc⟩ := hk hpos
  exact ⟨g, 0, e, hg, hBg, hc⟩
set_option maxHeartbeats 1000000 in
theorem put1_any (op : Int) (ho : I64 op) (p q : Nat) (D : Option Addr) (la ca : Nat) (d : List Int) (B : Nat → Prop) (K : Option Addr) (n c : Nat) (ts : List Tm) (w : World) (hp : w.cell? ⟨p, 0, none⟩ = some (.int .i64 op)) (hq : w.cell? ⟨q, 0, none⟩ = some (.slice D la ca)) (hd : Bys w D la d) (hlc : la ≤ ca) (hcm : ca ≤ maxLen)
    (hB : 0 < la → ∀ g off sp, D = some ⟨g, off, sp⟩ → B g) (hk : TmsZ B w K ts) (hn : ts.length = n) (hnc : n ≤ c) (hcm2 : c ≤ maxLen) :
    Calls Tryz.prog 51 #[.slice K n c, .pointer (some ⟨p, 0, none⟩), .pointer (some ⟨q, 0, none⟩)] w (HowPost B w (some (.mk op 0 d ts))) := by
  have hy := TmC.bound _ _ _ _ _ (mk_tm ho (show I64 0 by unfold I64; omega) hd hlc hcm hB hk hn hnc hcm2)
  obtain ⟨W0, hW0⟩ : ∃ x, w.alloc (.cells #[.int .i64 0, .int .i64 0, .slice none 0 0, .slice none 0 0] 57) = x := ⟨_, rfl⟩
  have hb0 : Below w.heap.size w W0 := by rw [← hW0]; exact below_new _ _
  have p0 : W0.heap[w.heap.size]? = some (.cells #[.int .i64 0, .int .i64 0, .slice none 0 0, .slice none 0 0] 57) := by rw [← hW0]; exact heap_new_ _ _
  have f := fun i => Lib.frozen_of_heap p0 i
  have f0 := f 0
  have f1 := f 1
  have f2 := f 2
  have f3 := f 3
  have t0 : W0.cell? ⟨w.heap.size, 0, none⟩ = some (.int .i64 0) := (Lib.cell_of_heap p0 _).trans rfl
  have t1 : W0.cell? ⟨w.heap.size, 1, none⟩ = some (.int .i64 0) := (Lib.cell_of_heap p0 _).trans rfl
  have t2 : W0.cell? ⟨w.heap.size, 2, none⟩ = some (.slice none 0 0) := (Lib.cell_of_heap p0 _).trans rfl
  have t3 : W0.cell? ⟨w.heap.size, 3, none⟩ = some (.slice none 0 0) := (Lib.cell_of_heap p0 _).trans rfl
  have a0 := (hb0.cell (p := ⟨p, 0, none⟩) (block_lt_of_cell hp)).trans hp
  have a1 := (hb0.cell (p := ⟨q, 0, none⟩) (block_lt_of_cell hq)).trans hq
  obtain ⟨r0, r1, r2, r3, hB, hT⟩ := res_end2 (w := w) (W := W0) (b := w.heap.size) (S := fun g => B g ∧ g < w.heap.size) (Nat.le_refl _) hb0 p0 (fun g hg => by have := hg.2; omega) (TmC.below hb0 _ _ _ _ _ hy)
  have HE := Lib.hid (And.intro hB (TmV.mono hT (B' := B) (fun g hg => hg.1)))
  clear hB hT hb0 p0 f hy hk hd hp hq ho
  go_enter Tryz.func51, Tryz.ntmps51
  go_wp2_with fail
  refine bodyPost_ret (v := .tuple #[.agg #[.int .i64 op, .int .i64 0, .slice D la ca, .slice K n c], .bool true]) ?_ rfl ⟨_, rfl, HE.out.2, HE.out.1⟩
  simp [results, Tryz.results51, go_sem, r0, r1, r2, r3]
set_option maxHeartbeats 1000000 in
theorem atom1_any (num : Int) (hm : I64 num) (p : Nat) (B : Nat → Prop) (K : Option Addr) (n c : Nat) (w : World) (hp : w.cell? ⟨p, 0, none⟩ = some (.int .i64 num)) :
    Calls Tryz.prog 32 #[.slice K n c, .pointer (some ⟨p, 0, none⟩)] w (HowPost B w (some (.mk 1 num [] []))) := by
  have hy := TmC.bound _ _ _ _ _ (tm_leaf B w 1 num (show I64 1 by unfold I64; omega) hm)
  obtain ⟨W0, hW0⟩ : ∃ x, w.alloc (.cells #[.int .i64 0, .int .i64 0, .slice none 0 0, .slice none 0 0] 57) = x := ⟨_, rfl⟩
  have hb0 : Below w.heap.size w W0 := by rw [← hW0]; exact below_new _ _
  have p0 : W0.heap[w.heap.size]? = some (.cells #[.int .i64 0, .int .i64 0, .slice none 0 0, .slice none 0 0] 57) := by rw [← hW0]; exact heap_new_ _ _
  have f := fun i => Lib.frozen_of_heap p0 i
  have f0 := f 0
  have f1 := f 1
  have f2 := f 2
  have f3 := f 3
  have t0 : W0.cell? ⟨w.heap.size, 0, none⟩ = some (.int .i64 0) := (Lib.cell_of_heap p0 _).trans rfl
  have t1 : W0.cell? ⟨w.heap.size, 1, none⟩ = some (.int .i64 0) := (Lib.cell_of_heap p0 _).trans rfl
  have t2 : W0.cell? ⟨w.heap.size, 2, none⟩ = some (.slice none 0 0) := (Lib.cell_of_heap p0 _).trans rfl
  have t3 : W0.cell? ⟨w.heap.size, 3, none⟩ = some (.slice none 0 0) := (Lib.cell_of_heap p0 _).trans rfl
  have a0 := (hb0.cell (p := ⟨p, 0, none⟩) (block_lt_of_cell hp)).trans hp
  obtain ⟨r0, r1, r2, r3, hB, hT⟩ := res_end2 (w := w) (W := W0) (b := w.heap.size) (S := fun g => B g ∧ g < w.heap.size) (Nat.le_refl _) hb0 p0 (fun g hg => by have := hg.2; omega) (TmC.below hb0 _ _ _ _ _ hy)
  have HE := Lib.hid (And.intro hB (TmV.mono hT (B' := B) (fun g hg => hg.1)))
  clear hB hT hb0 p0 f hy hp hm
  go_enter Tryz.func32, Tryz.ntmps32
  go_wp2_with fail
  refine bodyPost_ret (v := .tuple #[.agg #[.int .i64 1, .int .i64 num, .slice none 0 0, .slice none 0 0], .bool true]) ?_ rfl ⟨_, rfl, HE.out.2, HE.out.1⟩
  simp [results, Tryz.results32, go_sem, r0, r1, r2, r3]
set_option maxRecDepth 100000 in
set_option maxHeartbeats 4000000 in
theorem pow1_any (s t : Tm) (B : Nat → Prop) (A : Option Addr) (c : Nat) (w : World) (hk : TmsZ B w A [s, t]) (hc2 : 2 ≤ c) (hcm : c ≤ maxLen) (hsz : szT s + szT t ≤ 100000) :
    Calls Tryz.prog 35 #[.slice A 2 c] w (HowPost (fun g => w.heap.size ≤ g) w (powF s t)) := by
  have h9 : c ≤ 9223372036854775807 := by unfold maxLen at hcm; omega
  obtain ⟨g, rfl, hg, hBg, hkc⟩ := hk (by simp)
  obtain ⟨W0, hW0⟩ : ∃ x, w.alloc (.cells #[.int .i64 0, .int .i64 0, .slice none 0 0, .slice none 0 0] 57) = x := ⟨_, rfl⟩
  have hb0 : Below w.heap.size w W0 := by rw [← hW0]; exact below_new _ _
  have p0 : W0.heap[w.heap.size]? = some (.cells #[.int .i64 0, .int .i64 0, .slice none 0 0, .slice none 0 0] 57) := by rw [← hW0]; exact heap_new_ _ _
  have hz0 : w.heap.size < W0.heap.size := (Array.getElem?_eq_some_iff.1 p0).1
  have hkc := KidsC.below hb0 hg hBg _ _ hkc
  obtain ⟨x0, x1, x2, x3, a0, a1, a2, a3, hx⟩ := hkc.at 0 (by simp)
  obtain ⟨y0, y1, y2, y3, b0, b1, b2, b3, hy⟩ := hkc.at 1 (by simp)
  simp only [Nat.zero_mul, Nat.zero_add, Nat.one_mul, Nat.reduceAdd] at a0 a1 a2 a3 b0 b1 b2 b3
  have hpw := pow_any s t B B (.agg #[x0, x1, x2, x3]) (.agg #[y0, y1, y2, y3]) W0.drew ⟨_, _, _, _, rfl, TmC.below (Below.refl _ _).drew _ _ _ _ _ hx⟩ ⟨_, _, _, _, rfl, TmC.below (Below.refl _ _).drew _ _ _ _ _ hy⟩ hsz
  have HP := Lib.hid hpw
  have HB := Lib.hid (And.intro p0 (And.intro hz0 hb0))
  clear hpw hx hy hkc hk p0 hz0 hb0 hsz hcm
  obtain ⟨R, hR⟩ : ∃ x, powF s t = x := ⟨_, rfl⟩
  rw [hR] at HP ⊢
  clear hR
  go_enter Tryz.func35, Tryz.ntmps35
  go_wp2_with fail
  go_region_law (go_simp; go_at_call 36; refine HP.out.mono ?_; rintro e w2 ⟨v, rfl, hT1, hb2⟩; obtain ⟨z0, z1, z2, z3, rfl, hz⟩ := hT1; obtain ⟨o5, m5, A5, la5, ca5, K5, lk5, ck5, rfl, rfl, rfl, rfl⟩ := hz.shape; have hb2 := drew_below hb2; have p1 := (hb2.block w.heap.size HB.out.2.1).trans HB.out.1; have f0 := Lib.frozen_of_heap p1 0; have f1 := Lib.frozen_of_heap p1 1; have f2 := Lib.frozen_of_heap p1 2; have f3 := Lib.frozen_of_heap p1 3; obtain ⟨s0, s1, s2, s3⟩ : w2.cell? ⟨w.heap.size, 0, none⟩ = some (.int .i64 0) ∧ w2.cell? ⟨w.heap.size, 1, none⟩ = some (.int .i64 0) ∧ w2.cell? ⟨w.heap.size, 2, none⟩ = some (.slice none 0 0) ∧ w2.cell? ⟨w.heap.size, 3, none⟩ = some (.slice none 0 0) := ⟨(Lib.cell_of_heap p1 _).trans rfl, (Lib.cell_of_heap p1 _).trans rfl, (Lib.cell_of_heap p1 _).trans rfl, (Lib.cell_of_heap p1 _).trans rfl⟩; obtain ⟨r0, r1, r2, r3, hB, hT⟩ := res_end2 (w := w) (W := w2) (b := w.heap.size) (S := fun g => W0.heap.size ≤ g) (Nat.le_refl _) (HB.out.2.2.trans (hb2.mono HB.out.2.2.size)) p1 (fun g hg => by have := HB.out.2.1; omega) hz; have HE := Lib.hid (And.intro hB (TmV.mono hT (B' := fun g => w.heap.size ≤ g) (fun g hg => by have := HB.out.2.1; omega))); clear hB hT hz hb2 p1)
  all_goals
    go_wp2_with fail
    refine bodyPost_ret (v := .tuple #[.agg #[.int .i64 o5, .int .i64 m5, .slice A5 la5 ca5, .slice K5 lk5 ck5], .bool R.isSome]) ?_ rfl ⟨_, rfl, HE.out.2, HE.out.1⟩
    simp [results, Tryz.results35, go_sem, r0, r1, r2, r3]
end Go.Proofs.YtfmdmahlljbbmaaGreatDoor.vtc
