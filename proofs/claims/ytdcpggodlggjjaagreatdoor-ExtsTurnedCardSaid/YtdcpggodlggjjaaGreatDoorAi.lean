/- The program's oddOf and toldBy's closure; its searches among nodes and among objects; tagged. -/
import Derived.Test.YtdcpggodlggjjaaGreatDoorAh
import Derived.Test.YtdcpggodlggjjaaGreatDoorYe
import Derived.Lib.QuietBelow
import Derived.BigQuiet
namespace Go.Proofs.YtdcpggodlggjjaaGreatDoor.nmc
open Go.RowKit Go.Proofs.YtdcpggodlggjjaaGreatDoor.tlvc Go.Proofs.YtdcpggodlggjjaaGreatDoor.tlvd Go.Proofs.YtdcpggodlggjjaaGreatDoor.ndc Go.Proofs.YtdcpggodlggjjaaGreatDoor.txc Go.Proofs.YtdcpggodlggjjaaGreatDoor.txm Go.Proofs.YtdcpggodlggjjaaGreatDoor.intc Go.Proofs.YtdcpggodlggjjaaGreatDoor.intm
set_option linter.unusedVariables false
set_option linter.unusedSimpArgs false
/-- An odd extension, its object in new memory, its body in blocks of B. -/
def OSplit (B : Nat → Prop) (w : World) (o : Od) (e : Ending) (w' : World) : Prop :=
 Below w.heap.size w w' ∧ ∃ A l c K m n, e = .returned (.agg #[.slice A l c, .bool o.crit, .slice K m n]) ∧ InC (fun g => w.heap.size ≤ g) w' o.oid (.slice A l c) ∧ ByC B w' o.body (.slice K m n)
theorem inC_nil {S : Nat → Prop} {w : World} : InC S w [] (.slice none 0 0) := ⟨none, 0, 0, rfl, Nat.le_refl _, Nat.zero_le _, Ins.nil_ _ _, fun h => absurd h (by omega)⟩
theorem byC_nil {S : Nat → Prop} {w : World} : ByC S w [] (.slice none 0 0) := ⟨none, 0, 0, rfl, Nat.le_refl _, Nat.zero_le _, Bys.nil_ _ _, fun h => absurd h (by omega)⟩
theorem IHere.inC {B : Nat} {A : Option Addr} {c : Nat} {ys : List Int} {w : World} (h : IHere B A c ys w) : InC (fun g => B ≤ g) w ys (.slice A ys.length c) := ⟨A, ys.length, c, rfl, h.2.1, h.2.2.1, h.1, fun hl g off sp e => by
 obtain ⟨b', off', e', _, _⟩ := h.1.2.2 hl
 have := (h.2.2.2 b' off' e').1
 rw [e'] at e; cases e; exact this⟩
theorem body_cells {B : Nat → Prop} {w : World} {n : Nd} {t : Int} {A : Option Addr} {la ca : Nat} {K : Option Addr} {lk ck : Nat} (h : NdC B w n (.int .u8 t) (.slice A la ca) (.slice K lk ck)) : ByC B w n.body (.slice A la ca) := by
 obtain ⟨t', b, ks⟩ := n
 obtain ⟨_, _, ⟨A', la', ca', e, h1, h2, h3, h4⟩, _⟩ := NdC.kidsL h
 exact ⟨A', la', ca', e, h1, h2, h3, h4⟩
/-- Three stores into a box of three cells, at whatever type. -/
theorem kwrap_pred {n m : Nat} (h : n = m + 1) (hn : n ≤ 9223372036854775807) : IntKind.i64.wrap ((n : Int) - 1) = (m : Int) := by rw [IntKind.wrap_i64]; omega
theorem wrap_pred {n m : Nat} (h : n = m + 1) (hn : n ≤ 9223372036854775807) : wrap64 ((n : Int) - 1) = (m : Int) := by unfold wrap64; omega
set_option maxRecDepth 100000 in
set_option maxHeartbeats 8000000 in
theorem oddOf_any (B : Nat → Prop) (n : Nd) (c0 c1 c2 : Value) (w : World) (hn : NdC B w n c0 c1 c2) :
 Calls Tryz.prog 92 #[.agg #[c0, c1, c2]] w (OSplit B w (oddOfF n)) := by
 have mixed : Tryz.prog.follows Departure.mixedOrders = true := by kernel_rfl
 obtain ⟨t, b, ks⟩ := n
 obtain ⟨rfl, ht, ⟨A1, l1, k1, rfl, _, _, _, _⟩, K1, ck, rfl, hK1, hK2, hK3⟩ := NdC.kidsL hn
 have h9 : ck ≤ 9223372036854775807 := by unfold maxLen at hK2; omega
 obtain ⟨n, hn0⟩ : ∃ x, ks.length = x := ⟨_, rfl⟩
 have hodd : oddOfF (.mk t b ks) = if n = 0 then ⟨[], false, []⟩ else ⟨(oidF (kidF (.mk t b ks) 0).body).1, decide (2 < n), (kidF (.mk t b ks) (n - 1)).body⟩ := by unfold oddOfF; rw [show (Nd.mk t b ks).kids.length = n from hn0]
 rw [hodd]
 rw [hn0] at hK1 ⊢
 obtain ⟨W0, hW0⟩ : ∃ x, (w.alloc (.cells #[.int .u8 t, .slice A1 l1 k1, .slice K1 n ck] 33)).alloc (.cells #[.slice none 0 0, .bool false, .slice none 0 0] 60) = x := ⟨_, rfl⟩
 have hb0 : Below w.heap.size w W0 := by rw [← hW0]; exact (below_new _ _).alloc (by simp) _
 have hz0 : W0.heap.size = w.heap.size + 2 := by rw [← hW0]; simp
 have p0 : W0.heap[w.heap.size + 1]? = some (.cells #[.slice none 0 0, .bool false, .slice none 0 0] 60) := by rw [← hW0]; exact heap_is (by simp)
 have q0 : W0.heap[w.heap.size]? = some (.cells #[.int .u8 t, .slice A1 l1 k1, .slice K1 n ck] 33) := by rw [← hW0, heap_old_ _ _ (by simp)]; exact heap_new_ _ _
 obtain ⟨x0, x1, x2⟩ := box_nd (Below.refl _ W0) q0
 by_cases h0 : n = 0
 ·subst h0
  rw [if_pos rfl]
  obtain ⟨r0, r1, r2, hB⟩ := res3 (y0 := .slice none 0 0) (y1 := .bool false) (y2 := .slice none 0 0) (Nat.le_succ _) hb0 p0
  have f0 := Lib.frozen_of_heap p0 0
  have f1 := Lib.frozen_of_heap p0 1
  have f2 := Lib.frozen_of_heap p0 2
  have s0 := (Lib.cell_of_heap p0 0).trans rfl
  have s1 := (Lib.cell_of_heap p0 1).trans rfl
  have s2 := (Lib.cell_of_heap p0 2).trans rfl
  have HE := Lib.hid hB
  clear hB hb0 p0 q0 hK3 hn0 hz0 hodd hn hK1 hK2
  go_enter Tryz.func92, Tryz.ntmps92
  go_wp2_with fail
  refine bodyPost_ret (v := .agg #[.slice none 0 0, .bool false, .slice none 0 0]) ?_ rfl ⟨HE.out, _, _, _, _, _, _, rfl, inC_nil, byC_nil⟩
  simp [results, Tryz.results92, go_sem, r0, r1, r2]
 ·rw [if_neg h0]
  obtain ⟨m, hm⟩ : ∃ m, n = m + 1 := ⟨n - 1, by omega⟩
  have hix0 : 0 < ks.length := by omega
  have hixm : m < ks.length := by omega
  obtain ⟨g, off, t2, A2, l2, k2, K2, m2, n2, rfl, e0, e1, e2, hn2⟩ := nd_cells hK3 hb0 0 hix0
  obtain ⟨g', off', t3, A3, l3, k3, K3, m3, n3, eg, _, d1, _, hn3⟩ := nd_cells hK3 hb0 m hixm
  cases eg
  rw [show off + 0 * 3 = off by omega] at e0 e1 e2
  have hk0 : kidF (.mk t b ks) 0 = ks[0] := by show ks.getD 0 _ = _; rw [List.getD_eq_getElem?_getD, List.getElem?_eq_getElem hix0]; rfl
  have hkm : kidF (.mk t b ks) (n - 1) = ks[m] := by rw [show n - 1 = m by omega]; show ks.getD m _ = _; rw [List.getD_eq_getElem?_getD, List.getElem?_eq_getElem hixm]; rfl
  rw [hk0, hkm]
  have hz1 : ((n : Int) == 0) = false := by rw [beq_eq_false_iff_ne]; omega
  have hz2 : ¬ (n : Int) = 0 := by omega
  have hz3 : (0 : Int) < (n : Int) := by omega
  have hw1 := wrap_pred hm (by omega)
  have hw2 := kwrap_pred hm (by omega)
  have hz4 : (m : Int) < (n : Int) := by omega
  have hz5 : (0 : Int) ≤ (m : Int) := by omega
  have hz6 : 0 < n := by omega
  have hz7 : m < n := by omega
  obtain ⟨bz, hbz⟩ : ∃ x, decide (2 < n) = x := ⟨_, rfl⟩
  have hbz2 : decide ((2 : Int) < (n : Int)) = bz := by rw [← hbz]; exact decide_eq_decide.2 (by omega)
  rw [hbz]
  have HO := Lib.hid (fun W (hW : Below W0.heap.size W0 W) => objectOf_any B ks[0] _ _ _ W (NdC.below hW _ _ _ _ hn2))
  have HY := Lib.hid (fun W (hW : Below W0.heap.size W0 W) => (body_cells (NdC.below hW _ _ _ _ hn3)))
  have HG := Lib.hid (show g ≠ w.heap.size + 1 by obtain ⟨g2, off2, e2', hg2, _⟩ := hK3 (show 0 < ks.length by omega); cases e2'; omega)
  have HBY := Lib.hid (show ByC B w ks[m].body (.slice A3 l3 k3) from by
   obtain ⟨g2, off2, cs, e2', _, hcell, v0, v1, v2, rfl, hh⟩ := hK3.at m hixm
   cases e2'
   have j1 := cell_on hb0 (hcell 1 _ rfl)
   rw [show ndE.sz = 3 from rfl, d1] at j1
   obtain ⟨tq, Aq, lq, kq, Kq, mq, nq, rfl, rfl, rfl⟩ := hh.shape
   cases j1
   exact body_cells hh)
  have HB := Lib.hid (And.intro hb0 (And.intro p0 hz0))
  have HX := Lib.hid (fun W (hW : Below W0.heap.size W0 W) => And.intro (box_nd hW q0) (And.intro (cell_on hW e0) (And.intro (cell_on hW e1) (And.intro (cell_on hW e2) (cell_on hW d1)))))
  obtain ⟨ys, hys⟩ : ∃ x, oidZ ks[0] = x := ⟨_, rfl⟩
  rw [show (oidF ks[0].body).1 = oidZ ks[0] from rfl]
  rw [hys] at HO ⊢
  obtain ⟨bd, hbd0⟩ : ∃ x, ks[m].body = x := ⟨_, rfl⟩
  rw [hbd0] at HY HBY ⊢
  have hbd1 := HY.out W0 (Below.refl _ _)
  obtain ⟨W1, hW1⟩ : ∃ x, W0 = x := ⟨_, rfl⟩
  clear hW1 W1 hbd1
  clear hb0 p0 q0 hz0 hn hn2 hn3 hbz hodd hn0 hK3 hK1 hK2 h0 hm hix0 hixm hk0 hkm hys hbd0
  go_enter Tryz.func92, Tryz.ntmps92
  go_wp2_with fail
  try dsimp only
  try dsimp only
  refine wp_region_noPanic ?_
  refine wp_region_held_drew (S := fun wx : World => (wx.cell? ⟨w.heap.size, 0, none⟩ = some (.int .u8 t) ∧ wx.cell? ⟨w.heap.size, 1, none⟩ = some (.slice A1 l1 k1) ∧ wx.cell? ⟨w.heap.size, 2, none⟩ = some (.slice (some ⟨g, off, none⟩) n ck)) ∧ wx.cell? ⟨g, off, none⟩ = some (.int .u8 t2) ∧ wx.cell? ⟨g, off + 1, none⟩ = some (.slice A2 l2 k2) ∧ wx.cell? ⟨g, off + 2, none⟩ = some (.slice K2 m2 n2) ∧ wx.cell? ⟨g, off + m * 3 + 1, none⟩ = some (.slice A3 l3 k3)) mixed ⟨⟨x0, x1, x2⟩, e0, e1, e2, d1⟩ (fun hHeld => ?_)
  have hbd := below_drew W0
  obtain ⟨wd, hwd⟩ : ∃ x, W0.drew = x := ⟨_, rfl⟩
  rw [hwd] at hHeld hbd ⊢
  clear hwd
  (refine wpAnyH_take (i := 0) (oi := ⟨_, _, _, _, _, _⟩) (v := ?_) rfl (by kernel_rfl) (by kernel_rfl) (by kernel_rfl) (fun _ _ _ h => h) (Or.inl ⟨by rfl, ?_⟩) (by assumption) ?_; rotate_left; focus (intro wS hSw; (first | obtain ⟨⟨c1, c2, c3⟩, c4, c5, c6, c7⟩ := hSw | skip); go_simp; (try with_reducible rfl); done); (try simp only [Act.put, List.setIfInBounds_toArray, List.set_cons_zero, List.set_cons_succ]))
  (refine wpAnyH_take (i := 1) (oi := ⟨_, _, _, _, _, _⟩) (v := ?_) rfl (by kernel_rfl) (by kernel_rfl) (by kernel_rfl) (fun _ _ _ h => h) (Or.inl ⟨by rfl, ?_⟩) (by assumption) ?_; rotate_left; focus (intro wS hSw; (first | obtain ⟨⟨c1, c2, c3⟩, c4, c5, c6, c7⟩ := hSw | skip); go_simp; (try with_reducible rfl); done); (try simp only [Act.put, List.setIfInBounds_toArray, List.set_cons_zero, List.set_cons_succ]))
  (refine wpAnyH_take (i := 2) (oi := ⟨_, _, _, _, _, _⟩) (v := ?_) rfl (by kernel_rfl) (by kernel_rfl) (by kernel_rfl) (fun _ _ _ h => h) (Or.inl ⟨by rfl, ?_⟩) (by assumption) ?_; rotate_left; focus (intro wS hSw; (first | obtain ⟨⟨c1, c2, c3⟩, c4, c5, c6, c7⟩ := hSw | skip); go_simp; (try with_reducible rfl); done); (try simp only [Act.put, List.setIfInBounds_toArray, List.set_cons_zero, List.set_cons_succ]))
  (refine wpAnyH_take (i := 3) (oi := ⟨_, _, _, _, _, _⟩) (v := ?_) rfl (by kernel_rfl) (by kernel_rfl) (by kernel_rfl) (fun _ _ _ h => h) (Or.inl ⟨by rfl, ?_⟩) (by assumption) ?_; rotate_left; focus (intro wS hSw; (first | obtain ⟨⟨c1, c2, c3⟩, c4, c5, c6, c7⟩ := hSw | skip); go_simp; (try with_reducible rfl); done); (try simp only [Act.put, List.setIfInBounds_toArray, List.set_cons_zero, List.set_cons_succ]))
  (refine wpAnyH_take (i := 5) (oi := ⟨_, _, _, _, _, _⟩) (v := ?_) rfl (by kernel_rfl) (by kernel_rfl) (by kernel_rfl) (fun _ _ _ h => h) (Or.inl ⟨by rfl, ?_⟩) (by assumption) ?_; rotate_left; focus (intro wS hSw; (first | obtain ⟨⟨c1, c2, c3⟩, c4, c5, c6, c7⟩ := hSw | skip); go_simp; (try with_reducible rfl); done); (try simp only [Act.put, List.setIfInBounds_toArray, List.set_cons_zero, List.set_cons_succ]))
  (refine wpAnyH_take (i := 6) (oi := ⟨_, _, _, _, _, _⟩) (v := ?_) rfl (by kernel_rfl) (by kernel_rfl) (by kernel_rfl) (fun _ _ _ h => h) (Or.inl ⟨by rfl, ?_⟩) (by assumption) ?_; rotate_left; focus (intro wS hSw; (first | obtain ⟨⟨c1, c2, c3⟩, c4, c5, c6, c7⟩ := hSw | skip); go_simp; (try with_reducible rfl); done); (try simp only [Act.put, List.setIfInBounds_toArray, List.set_cons_zero, List.set_cons_succ]))
  (refine wpAnyH_take (i := 7) (oi := ⟨_, _, _, _, _, _⟩) (v := ?_) rfl (by kernel_rfl) (by kernel_rfl) (by kernel_rfl) (fun _ _ _ h => h) (Or.inl ⟨by rfl, ?_⟩) (by assumption) ?_; rotate_left; focus (intro wS hSw; (first | obtain ⟨⟨c1, c2, c3⟩, c4, c5, c6, c7⟩ := hSw | skip); go_simp; (try with_reducible rfl); done); (try simp only [Act.put, List.setIfInBounds_toArray, List.set_cons_zero, List.set_cons_succ]))
  (refine wpAnyH_take (i := 8) (oi := ⟨_, _, _, _, _, _⟩) (v := ?_) rfl (by kernel_rfl) (by kernel_rfl) (by kernel_rfl) (fun _ _ _ h => h) (Or.inl ⟨by rfl, ?_⟩) (by assumption) ?_; rotate_left; focus (intro wS hSw; (first | obtain ⟨⟨c1, c2, c3⟩, c4, c5, c6, c7⟩ := hSw | skip); go_simp; (try with_reducible rfl); done); (try simp only [Act.put, List.setIfInBounds_toArray, List.set_cons_zero, List.set_cons_succ]))
  (refine wpAnyH_take (i := 9) (oi := ⟨_, _, _, _, _, _⟩) (v := ?_) rfl (by kernel_rfl) (by kernel_rfl) (by kernel_rfl) (fun _ _ _ h => h) (Or.inl ⟨by rfl, ?_⟩) (by assumption) ?_; rotate_left; focus (intro wS hSw; (first | obtain ⟨⟨c1, c2, c3⟩, c4, c5, c6, c7⟩ := hSw | skip); go_simp; (try with_reducible rfl); done); (try simp only [Act.put, List.setIfInBounds_toArray, List.set_cons_zero, List.set_cons_succ]))
  (refine wpAnyH_take (i := 10) (oi := ⟨_, _, _, _, _, _⟩) (v := ?_) rfl (by kernel_rfl) (by kernel_rfl) (by kernel_rfl) (fun _ _ _ h => h) (Or.inl ⟨by rfl, ?_⟩) (by assumption) ?_; rotate_left; focus (intro wS hSw; (first | obtain ⟨⟨c1, c2, c3⟩, c4, c5, c6, c7⟩ := hSw | skip); go_simp; (try with_reducible rfl); done); (try simp only [Act.put, List.setIfInBounds_toArray, List.set_cons_zero, List.set_cons_succ]))
  (refine wpAnyH_take (i := 11) (oi := ⟨_, _, _, _, _, _⟩) (v := ?_) rfl (by kernel_rfl) (by kernel_rfl) (by kernel_rfl) (fun _ _ _ h => h) (Or.inl ⟨by rfl, ?_⟩) (by assumption) ?_; rotate_left; focus (intro wS hSw; (first | obtain ⟨⟨c1, c2, c3⟩, c4, c5, c6, c7⟩ := hSw | skip); go_simp; (try with_reducible rfl); done); (try simp only [Act.put, List.setIfInBounds_toArray, List.set_cons_zero, List.set_cons_succ]))
  (refine wpAnyH_take (i := 12) (oi := ⟨_, _, _, _, _, _⟩) (v := ?_) rfl (by kernel_rfl) (by kernel_rfl) (by kernel_rfl) (fun _ _ _ h => h) (Or.inl ⟨by rfl, ?_⟩) (by assumption) ?_; rotate_left; focus (intro wS hSw; (first | obtain ⟨⟨c1, c2, c3⟩, c4, c5, c6, c7⟩ := hSw | skip); go_simp; (try with_reducible rfl); done); (try simp only [Act.put, List.setIfInBounds_toArray, List.set_cons_zero, List.set_cons_succ]))
  (refine wpAnyH_take (i := 13) (oi := ⟨_, _, _, _, _, _⟩) (v := ?_) rfl (by kernel_rfl) (by kernel_rfl) (by kernel_rfl) (fun _ _ _ h => h) (Or.inl ⟨by rfl, ?_⟩) (by assumption) ?_; rotate_left; focus (intro wS hSw; (first | obtain ⟨⟨c1, c2, c3⟩, c4, c5, c6, c7⟩ := hSw | skip); go_simp; (try with_reducible rfl); done); (try simp only [Act.put, List.setIfInBounds_toArray, List.set_cons_zero, List.set_cons_succ]))
  (refine wpAnyH_take (i := 14) (oi := ⟨_, _, _, _, _, _⟩) (v := ?_) rfl (by kernel_rfl) (by kernel_rfl) (by kernel_rfl) (fun _ _ _ h => h) (Or.inl ⟨by rfl, ?_⟩) (by assumption) ?_; rotate_left; focus (intro wS hSw; (first | obtain ⟨⟨c1, c2, c3⟩, c4, c5, c6, c7⟩ := hSw | skip); go_simp; (try with_reducible rfl); done); (try simp only [Act.put, List.setIfInBounds_toArray, List.set_cons_zero, List.set_cons_succ]))
  (refine wpAnyH_take (i := 15) (oi := ⟨_, _, _, _, _, _⟩) (v := ?_) rfl (by kernel_rfl) (by kernel_rfl) (by kernel_rfl) (fun _ _ _ h => h) (Or.inl ⟨by rfl, ?_⟩) (by assumption) ?_; rotate_left; focus (intro wS hSw; (first | obtain ⟨⟨c1, c2, c3⟩, c4, c5, c6, c7⟩ := hSw | skip); go_simp; (try with_reducible rfl); done); (try simp only [Act.put, List.setIfInBounds_toArray, List.set_cons_zero, List.set_cons_succ]))
  (refine wpAnyH_take (i := 16) (oi := ⟨_, _, _, _, _, _⟩) (v := ?_) rfl (by kernel_rfl) (by kernel_rfl) (by kernel_rfl) (fun _ _ _ h => h) (Or.inl ⟨by rfl, ?_⟩) (by assumption) ?_; rotate_left; focus (intro wS hSw; (first | obtain ⟨⟨c1, c2, c3⟩, c4, c5, c6, c7⟩ := hSw | skip); go_simp; (try with_reducible rfl); done); (try simp only [Act.put, List.setIfInBounds_toArray, List.set_cons_zero, List.set_cons_succ]))
  (refine wpAnyH_take (i := 17) (oi := ⟨_, _, _, _, _, _⟩) (v := ?_) rfl (by kernel_rfl) (by kernel_rfl) (by kernel_rfl) (fun _ _ _ h => h) (Or.inl ⟨by rfl, ?_⟩) (by assumption) ?_; rotate_left; focus (intro wS hSw; (first | obtain ⟨⟨c1, c2, c3⟩, c4, c5, c6, c7⟩ := hSw | skip); go_simp; (try with_reducible rfl); done); (try simp only [Act.put, List.setIfInBounds_toArray, List.set_cons_zero, List.set_cons_succ]))
  refine wpAnyH_ready (rs := [4]) (by kernel_rfl) (by simp) ?_
  refine AllReadyH.cons (o := ⟨_, _, _, _, _, _⟩) rfl (fun KK hKK => ?_) AllReadyH.nil
  go_simp
  refine (HO.out _ hbd).mono ?_
  rintro e w3 ⟨A5, c5, rfl, hin, hb3⟩
  dsimp only
  have hin := IHere.inC hin
  have hb3 := below_then hbd hb3 (Nat.le_refl _)
  refine hKK.out _ _ (HX.out _ hb3) (fun hHeld2 => ?_)
  clear hKK KK hHeld
  have hHeld := hHeld2
  clear hHeld2
  try simp only [Act.put, List.setIfInBounds_toArray, List.set_cons_zero, List.set_cons_succ]
  (refine wpAnyH_take (i := 18) (oi := ⟨_, _, _, _, _, _⟩) (v := ?_) rfl (by kernel_rfl) (by kernel_rfl) (by kernel_rfl) (fun _ _ _ h => h) (Or.inl ⟨by rfl, ?_⟩) (by assumption) ?_; rotate_left; focus (intro wS hSw; (first | obtain ⟨⟨c1, c2, c3⟩, c4, c5, c6, c7⟩ := hSw | skip); go_simp; (try with_reducible rfl); done); (try simp only [Act.put, List.setIfInBounds_toArray, List.set_cons_zero, List.set_cons_succ]))
  have hBw := below_then HB.out.1 hb3 (Nat.le_refl _)
  have p9 := (hb3.block (w.heap.size + 1) (by have := HB.out.2.2; omega)).trans HB.out.2.1
  obtain ⟨r0, r1, r2, hB⟩ := res3 (b := w.heap.size + 1) (y0 := .slice A5 ys.length c5) (y1 := .bool bz) (y2 := .slice A3 l3 k3) (Nat.le_succ _) hBw p9
  have f0 := Lib.frozen_of_heap p9 0
  have f1 := Lib.frozen_of_heap p9 1
  have f2 := Lib.frozen_of_heap p9 2
  have s0 := (Lib.cell_of_heap p9 0).trans rfl
  have s1 := (Lib.cell_of_heap p9 1).trans rfl
  have s2 := (Lib.cell_of_heap p9 2).trans rfl
  have hzz := HB.out.2.2
  have hbz3 := hbd.size
  have hby := HY.out _ hb3
  have hoth : ∀ g, g ≠ w.heap.size + 1 → (((w3.setCell ⟨w.heap.size + 1, 0, none⟩ (.slice A5 ys.length c5)).setCell ⟨w.heap.size + 1, 1, none⟩ (.bool bz)).setCell ⟨w.heap.size + 1, 2, none⟩ (.slice A3 l3 k3)).heap[g]? = w3.heap[g]? := fun g hg => set3_other w3 _ _ _ _ hg
  have hsz : (((w3.setCell ⟨w.heap.size + 1, 0, none⟩ (.slice A5 ys.length c5)).setCell ⟨w.heap.size + 1, 1, none⟩ (.bool bz)).setCell ⟨w.heap.size + 1, 2, none⟩ (.slice A3 l3 k3)).heap.size = w3.heap.size := set3_size w3 _ _ _ _
  have hin2 := (hin.stays (w' := ((w3.setCell ⟨w.heap.size + 1, 0, none⟩ (.slice A5 ys.length c5)).setCell ⟨w.heap.size + 1, 1, none⟩ (.bool bz)).setCell ⟨w.heap.size + 1, 2, none⟩ (.slice A3 l3 k3)) ⟨by rw [hsz]; exact Nat.le_refl _, fun p hp _ => cell_same (hoth _ (by omega))⟩).mono (S' := fun g => w.heap.size ≤ g) (fun g hg => by omega)
  have hby2 := HBY.out.below hB
  have hg1 : g ≠ w.heap.size + 1 := HG.out
  obtain ⟨⟨z0, z1, z2⟩, z3, z4, z5, z6⟩ := HX.out _ hb3
  have hcb := And.intro (And.intro ((cell_same (hoth w.heap.size (by omega))).trans z0) (And.intro ((cell_same (hoth w.heap.size (by omega))).trans z1) ((cell_same (hoth w.heap.size (by omega))).trans z2))) (And.intro ((cell_same (hoth g hg1)).trans z3) (And.intro ((cell_same (hoth g hg1)).trans z4) (And.intro ((cell_same (hoth g hg1)).trans z5) ((cell_same (hoth g hg1)).trans z6))))
  have HE := Lib.hid (And.intro hB (And.intro hin2 hby2))
  refine wpAnyH_ready (rs := [19]) (by kernel_rfl) (by simp) ?_
  refine AllReadyH.cons (o := ⟨_, _, _, _, _, _⟩) rfl (fun KK hKK => ?_) AllReadyH.nil
  go_simp
  refine hKK.out _ _ hcb (fun hHeld2 => ?_)
  clear hKK KK hHeld
  have hHeld := hHeld2
  clear hHeld2
  try simp only [Act.put, List.setIfInBounds_toArray, List.set_cons_zero, List.set_cons_succ]
  refine wpAnyH_done (by kernel_rfl) ?_ _
  refine NoPanic.normal ?_
  clear hHeld hcb z0 z1 z2 z3 z4 z5 z6 s0 s1 s2 f0 f1 f2 p9 hoth hsz hg1 hb3 hbd hBw hB hin hin2 hby hby2 hzz hbz3 x0 x1 x2 e0 e1 e2 d1
  go_wp2_with fail
  refine bodyPost_ret (v := .agg #[.slice A5 ys.length c5, .bool bz, .slice A3 l3 k3]) ?_ rfl ⟨HE.out.1, _, _, _, _, _, _, rfl, HE.out.2.1, HE.out.2.2⟩
  simp [results, Tryz.results92, go_sem, r0, r1, r2]
end Go.Proofs.YtdcpggodlggjjaaGreatDoor.nmc
