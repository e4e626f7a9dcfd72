/- Order at any two terms. -/
import Derived.Test.YtlnclgpbobaedaaDoorTmOc
import Derived.StillTailTactics
import Derived.Lib.Builder
namespace Go.Proofs.YtlnclgpbobaedaaDoor.tmc
open Go.RowKit Go.Proofs.YtlnclgpbobaedaaDoor.tlvc
set_option linter.unusedVariables false
theorem box4 {W0 W : World} {B g : Nat} {a b c d : Value} {T : TypeId} (hB : Below B W0 W) (hq : W0.heap[g]? = some (.cells #[a, b, c, d] T)) (hg : g < B) :
    W.cell? ⟨g, 0, none⟩ = some a ∧ W.cell? ⟨g, 1, none⟩ = some b ∧ W.cell? ⟨g, 2, none⟩ = some c ∧ W.cell? ⟨g, 3, none⟩ = some d := by
  have h := (hB.block g hg).trans hq
  exact ⟨by rw [Lib.cell_of_heap h]; rfl, by rw [Lib.cell_of_heap h]; rfl, by rw [Lib.cell_of_heap h]; rfl, by rw [Lib.cell_of_heap h]; rfl⟩
theorem heap_old_ (w : World) (o : Obj) {k : Nat} (h : k < w.heap.size) : (w.alloc o).heap[k]? = w.heap[k]? := by show (w.heap.push o)[k]? = _; rw [Array.getElem?_push_lt h]; exact (Array.getElem?_eq_getElem h).symm
theorem heap_new_ (w : World) (o : Obj) : (w.alloc o).heap[w.heap.size]? = some o := by show (w.heap.push o)[w.heap.size]? = _; simp
theorem below_new (w : World) (o : Obj) : Below w.heap.size w (w.alloc o) := (Below.refl _ _).alloc (Nat.le_refl _) _
theorem below_then {B : Nat} {w w1 w2 : World} (h : Below B w w1) (k : Below w1.heap.size w1 w2) (hB : B ≤ w.heap.size) : Below B w w2 := h.trans (k.mono (Nat.le_trans hB h.size))
set_option maxRecDepth 100000 in
set_option maxHeartbeats 8000000 in
theorem order_step (o m : Int) (d : List Int) (ks : List Tm) (hk : ∀ k ∈ ks, ∀ l, OrdersD k l) (n : Tm) : OrdersD (.mk o m d ks) n := by
  intro C1 C2 v u w hv hu
  obtain ⟨o', m', d', ls⟩ := n
  obtain ⟨c0, c1, c2, c3, rfl, hc⟩ := hv
  obtain ⟨f0, f1, f2, f3, rfl, hf⟩ := hu
  unfold TmC at hc hf
  obtain ⟨rfl, ho, rfl, hm, ⟨A, la, ca, rfl, hA1, hA2, hA3, _⟩, K, ck, rfl, hK1, hK2, hK3⟩ := hc
  obtain ⟨rfl, ho', rfl, hm', ⟨B, lb, cb, rfl, hB1, hB2, hB3, _⟩, L, cl, rfl, hL1, hL2, hL3⟩ := hf
  obtain ⟨W0, hW0⟩ : ∃ x, (w.alloc (.cells #[.int .i64 o, .int .i64 m, .slice A la ca, .slice K ks.length ck] 26)).alloc (.cells #[.int .i64 o', .int .i64 m', .slice B lb cb, .slice L ls.length cl] 26) = x := ⟨_, rfl⟩
  have hz : W0.heap.size = w.heap.size + 2 := by rw [← hW0]; simp
  have hbw : Below w.heap.size w W0 := by rw [← hW0]; exact (below_new _ _).alloc (by simp) _
  have p0 : W0.heap[w.heap.size]? = some (.cells #[.int .i64 o, .int .i64 m, .slice A la ca, .slice K ks.length ck] 26) := by rw [← hW0, heap_old_ _ _ (by simp)]; exact heap_new_ _ _
  have p1 : W0.heap[w.heap.size + 1]? = some (.cells #[.int .i64 o', .int .i64 m', .slice B lb cb, .slice L ls.length cl] 26) := by
    rw [← hW0]
    have := heap_new_ (w.alloc (.cells #[.int .i64 o, .int .i64 m, .slice A la ca, .slice K ks.length ck] 26)) (.cells #[.int .i64 o', .int .i64 m', .slice B lb cb, .slice L ls.length cl] 26)
    rwa [show (w.alloc (.cells #[.int .i64 o, .int .i64 m, .slice A la ca, .slice K ks.length ck] 26)).heap.size = w.heap.size + 1 by simp] at this
  obtain ⟨a0, a1, a2, a3⟩ := box4 (Below.refl W0.heap.size W0) p0 (by omega)
  obtain ⟨b0, b1, b2, b3⟩ := box4 (Below.refl W0.heap.size W0) p1 (by omega)
  have hx := hA3.below hbw
  have hy := hB3.below hbw
  have k1 := cmpOp_any o o'
  have k2 := cmp64_any m m'
  have k3 := bcmp_any A B la ca lb cb d d' W0.drew hx.drew hy.drew
  have hord : ordT (.mk o m d ks) (.mk o' m' d' ls) = or0 (or0 (cmpI o o') (or0 (cmpI m m') (cmpL d d'))) (ordL ks ls) := by
    unfold ordT or0
    simp only [Tm.op, Tm.num, Tm.data, Tm.kids]
    by_cases h1 : cmpI o o' = 0
    · by_cases h2 : cmpI m m' = 0
      · by_cases h3 : cmpL d d' = 0 <;> simp [h1, h2, h3]
      · simp [h1, h2]
    · simp [h1]
  have hcf : ∀ W, Below W0.heap.size W0 W → Calls Tryd.prog 61 #[.slice K ks.length ck, .slice L ls.length cl, .func (.func 46) #[] #[]] W fun e w' => e = .returned (.int .i64 (ordL ks ls)) ∧ Below W.heap.size W w' ∧ W.drawn ≤ w'.drawn := fun W hW =>
    compareFunc_any C1 C2 ks ls K L ks.length ck ls.length cl W rfl rfl (TmsB.below hK3 (hbw.trans (hW.mono hbw.size))) (TmsB.below hL3 (hbw.trans (hW.mono hbw.size))) hK1 hL1 hK2 hL2 hk
  have hbx : ∀ W, Below W0.heap.size W0 W → W.cell? ⟨w.heap.size, 3, none⟩ = some (.slice K ks.length ck) ∧ W.cell? ⟨w.heap.size + 1, 3, none⟩ = some (.slice L ls.length cl) := fun W hW => ⟨(box4 hW p0 (by omega)).2.2.2, (box4 hW p1 (by omega)).2.2.2⟩
  rw [hord]
  obtain ⟨r1, h1⟩ : ∃ x, cmpI o o' = x := ⟨_, rfl⟩
  obtain ⟨r2, h2⟩ : ∃ x, cmpI m m' = x := ⟨_, rfl⟩
  obtain ⟨r3, h3⟩ : ∃ x, cmpL d d' = x := ⟨_, rfl⟩
  obtain ⟨r4, h4⟩ : ∃ x, ordL ks ls = x := ⟨_, rfl⟩
  rw [h1] at k1
  rw [h2] at k2
  rw [h3] at k3
  rw [h4] at hcf
  rw [h1, h2, h3, h4]
  obtain ⟨RES, hRES⟩ : ∃ x, or0 (or0 r1 (or0 r2 r3)) r4 = x := ⟨_, rfl⟩
  rw [hRES]
  have HRES := Lib.hid hRES
  clear hRES
  have K1 := Lib.hid k1
  have K2 := Lib.hid k2
  have K3 := Lib.hid k3
  have HCF := Lib.hid hcf
  have HBX := Lib.hid hbx
  have HBW := Lib.hid hbw
  clear h1 h2 h3 h4 k1 k2 k3 hcf hbx hbw hord hk hK3 hL3 hA3 hB3 hx hy p0 p1
  obtain ⟨lk, hlk⟩ : ∃ x, ks.length = x := ⟨_, rfl⟩
  obtain ⟨ll, hll⟩ : ∃ x, ls.length = x := ⟨_, rfl⟩
  rw [hlk] at hW0 a3 HCF HBX ⊢
  rw [hll] at hW0 b3 HCF HBX ⊢
  clear hlk hll
  go_enter Tryd.func46, Tryd.ntmps46
  have hWz := Lib.hid hW0
  go_wp2_with fail
  clear hW0
  refine wp_region_still_tail 15 (by kernel_rfl) (by kernel_rfl) ?_
  simp only [List.take_succ_cons, List.take_zero, List.drop_succ_cons, List.drop_zero]
  repeat still_step
  still_call (K1.out _)
  repeat still_step
  still_call (K2.out _)
  repeat still_step
  still_call (K3.out)
  repeat still_step
  refine wpStill_nil ?_
  change wpList _ _ _ _ _ W0.drew
  clear a0 a1 a2 a3 b0 b1 b2 b3 hz
  have hd : Below W0.heap.size W0 W0.drew := (Below.refl _ _).drew
  have hw0 : W0.drawn = w.drawn := by rw [← hWz.out]; rfl
  have hdd : w.drawn ≤ W0.drew.drawn := by show w.drawn ≤ W0.drawn + 1; omega
  obtain ⟨W1, hW1⟩ : ∃ x, W0.drew = x := ⟨_, rfl⟩
  rw [hW1] at hd hdd ⊢
  clear hW1
  have hn : Below W0.heap.size W0 (W1.alloc (.cells #[.int .i64 r1, .int .i64 r2, .int .i64 r3] 3)) := hd.alloc hd.size _
  have hq := heap_new_ W1 (.cells #[.int .i64 r1, .int .i64 r2, .int .i64 r3] 3)
  go_wp2_with fail
  refine (first_any W1.heap.size r1 r2 r3 _ (by rw [Lib.cell_of_heap hq]; rfl) (by rw [Lib.cell_of_heap hq]; rfl) (by rw [Lib.cell_of_heap hq]; rfl)).mono ?_
  rintro e w3 ⟨rfl, rfl⟩
  obtain ⟨z3, z4⟩ := HBX.out _ hn
  obtain ⟨r, hr⟩ : ∃ x, or0 r1 (or0 r2 r3) = x := ⟨_, rfl⟩
  have HRES2 : Hid (or0 r r4 = RES) := Lib.hid (by rw [← hr]; exact HRES.out)
  rw [hr]
  clear HRES
  have HN := Lib.hid hn
  clear hq hr hn hd
  by_cases hr0 : r = 0
  · subst hr0
    have hE : r4 = RES := by have := HRES2.out; unfold or0 at this; rwa [if_pos rfl] at this
    clear HRES2
    subst hE
    go_wp2_with fail
    refine (HCF.out _ HN.out).mono ?_
    rintro e w4 ⟨rfl, hb4, hd4⟩
    have hend := HBW.out.trans ((below_then HN.out hb4 (Nat.le_refl _)).mono HBW.out.size)
    have hdend : w.drawn ≤ w4.drawn := Nat.le_trans hdd hd4
    clear HCF HBX HBW HN z3 z4 hb4 hdd hd4
    go_wp2
    go_ret
    exact ⟨rfl, hend, hdend⟩
  · have hrb : (r == 0) = false := by simpa using hr0
    have hE : r = RES := by have := HRES2.out; unfold or0 at this; rwa [if_neg hr0] at this
    clear HRES2
    subst hE
    have hend := HBW.out.trans (HN.out.mono HBW.out.size)
    clear HCF HBX HBW HN
    go_wp2
    go_ret
    exact ⟨rfl, hend, hdd⟩
theorem orders_all : ∀ (N : Nat) (n : Tm), szT n ≤ N → ∀ l, OrdersD n l
  | 0, .mk _ _ _ ks, h => by unfold szT at h; omega
  | N + 1, .mk o m d ks, h => fun l => order_step o m d ks (fun k hk => orders_all N k (by unfold szT at h; have := szTs_mem hk; omega)) l
/-- Order's contract. -/
theorem order_d (n l : Tm) : OrdersD n l := orders_all _ n (Nat.le_refl _) l
theorem order_any (n l : Tm) : Orders n l := fun C1 C2 v u w h1 h2 => (order_d n l C1 C2 v u w h1 h2).mono fun _ _ h => ⟨h.1, h.2.1⟩
end Go.Proofs.YtlnclgpbobaedaaDoor.tmc
