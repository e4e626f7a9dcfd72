/- The live question of the law's package. -/
import Derived.Test.YtoaacacbjimloaaTmPb
import Derived.Test.YtoaacacbjimloaaTmS
namespace Go.Proofs.Ytoaacacbjimloaa.tmc
open Go.RowKit Go.Proofs.Ytoaacacbjimloaa.tlvc
set_option linter.unusedVariables false
def atom1 : Tm := .mk 1 1 [] []
theorem atom_right : rightF atom1 0 = true := by unfold atom1; rw [right_mk]; exact ⟨by omega, by decide, by simp, List.Pairwise.nil⟩
theorem pow1_right : rightF (pow0 exp0 atom1) 0 = true := by
  rw [pow0_one, right_mk]
  refine ⟨by omega, by decide, fun k hk => ?_, by simp⟩
  rw [List.mem_singleton] at hk
  subst hk
  unfold atom1; rw [right_mk]; exact ⟨by omega, by decide, by simp, List.Pairwise.nil⟩
theorem pow1 : powF exp0 atom1 = some (pow0 exp0 atom1) := by
  unfold powF
  rw [if_pos ⟨exp0_right, atom_right, rfl⟩, if_pos pow1_right]
theorem ord1 : ordT atom1 (pow0 exp0 atom1) = -1 := by
  rw [pow0_one]
  unfold atom1 ordT
  simp [Tm.op, cmpI, or0]
theorem sz1 : szT (pow0 exp0 atom1) = 2 := by
  rw [pow0_sz]
  unfold exp0 atom1 szT szTs
  rfl
theorem tm_leaf (B : Nat → Prop) (w : World) (o m : Int) (ho : I64 o) (hm : I64 m) : TmC B w (.mk o m [] []) (.int .i64 o) (.int .i64 m) (.slice none 0 0) (.slice none 0 0) := by
  unfold TmC
  exact ⟨rfl, ho, rfl, hm, ⟨none, 0, 0, rfl, Nat.le_refl _, Nat.zero_le _, Bys.nil_ _ _, fun h => absurd h (by omega)⟩, none, 0, rfl, Nat.le_refl _, Nat.zero_le _, fun h => absurd h (by simp)⟩
set_option maxRecDepth 100000 in
set_option maxHeartbeats 8000000 in
theorem head_any (w : World) : Calls Try.prog 10 #[] w fun e w' => e = .returned (.bool true) ∧ Below w.heap.size w w' := by
  obtain ⟨W1, hW1⟩ : ∃ y, w.alloc (.cells #[.int .i64 1, .int .i64 1, .slice none 0 0, .slice none 0 0] 26) = y := ⟨_, rfl⟩
  have hb1 : Below w.heap.size w W1 := by rw [← hW1]; exact below_new _ _
  have hn1 : W1.heap[w.heap.size]? = some (.cells #[.int .i64 1, .int .i64 1, .slice none 0 0, .slice none 0 0] 26) := by rw [← hW1]; exact heap_new_ _ _
  have hz1 : w.heap.size < W1.heap.size := by rw [← hW1]; simp
  have hp := pow_any exp0 atom1 (fun _ => True) (fun _ => True) (.agg #[.int .i64 7, .int .i64 0, .slice none 0 0, .slice none 0 0]) (.agg #[.int .i64 1, .int .i64 1, .slice none 0 0, .slice none 0 0]) W1 ⟨_, _, _, _, rfl, tm_leaf _ _ 7 0 (by unfold I64; omega) (by unfold I64; omega)⟩ ⟨_, _, _, _, rfl, tm_leaf _ _ 1 1 (by unfold I64; omega) (by unfold I64; omega)⟩ (by unfold exp0 atom1; unfold szT szTs; decide)
  rw [pow1] at hp
  have HP := Lib.hid hp
  have c0 : W1.cell? ⟨w.heap.size, 0, none⟩ = some (.int .i64 1) := by rw [Lib.cell_of_heap hn1]; rfl
  have c1 : W1.cell? ⟨w.heap.size, 1, none⟩ = some (.int .i64 1) := by rw [Lib.cell_of_heap hn1]; rfl
  have c2 : W1.cell? ⟨w.heap.size, 2, none⟩ = some (.slice none 0 0) := by rw [Lib.cell_of_heap hn1]; rfl
  have c3 : W1.cell? ⟨w.heap.size, 3, none⟩ = some (.slice none 0 0) := by rw [Lib.cell_of_heap hn1]; rfl
  have HB1 := Lib.hid hb1
  have HN1 := Lib.hid hn1
  have HZ1 := Lib.hid hz1
  have HW1 := Lib.hid hW1
  clear hp hb1 hn1 hz1 hW1
  go_enter Try.func10, Try.ntmps10
  go_wp2_with fail
  rw [HW1.out]
  clear HW1
  refine HP.out.mono ?_
  rintro e w2 ⟨v2, rfl, ⟨n0, n1, n2, n3, rfl, hk2⟩, hb2⟩
  have hk2 : TmC (fun g => W1.heap.size ≤ g) w2 (pow0 exp0 atom1) n0 n1 n2 n3 := hk2
  have hn2 := (hb2.block _ HZ1.out).trans HN1.out
  obtain ⟨o2, m2, A2, la2, ca2, K2, lk2, ck2, rfl, rfl, rfl, rfl⟩ := hk2.shape
  have ho2 : o2 = 7 := by rw [pow0_one] at hk2; unfold TmC at hk2; have := hk2.1; cases this; rfl
  have hl2 : lk2 = 1 := by rw [pow0_one] at hk2; have := (term_kids hk2).1; rw [← this]; rfl
  subst ho2 hl2
  obtain ⟨W3, hW3⟩ : ∃ y, w2.alloc (.cells #[.int .i64 7, .int .i64 m2, .slice A2 la2 ca2, .slice K2 1 ck2] 26) = y := ⟨_, rfl⟩
  have hb3 : Below w2.heap.size w2 W3 := by rw [← hW3]; exact below_new _ _
  have hn3 : W3.heap[w2.heap.size]? = some (.cells #[.int .i64 7, .int .i64 m2, .slice A2 la2 ca2, .slice K2 1 ck2] 26) := by rw [← hW3]; exact heap_new_ _ _
  have hz3 : w2.heap.size < W3.heap.size := by rw [← hW3]; simp
  have hm3 := (hb3.block _ (Nat.lt_of_lt_of_le HZ1.out hb2.size)).trans hn2
  have hk3 := TmC.below hb3 _ _ _ _ _ hk2
  have hB3 : Below w.heap.size w W3 := HB1.out.trans ((hb2.trans (hb3.mono hb2.size)).mono HB1.out.size)
  have hbox : ∀ W, Below W3.heap.size W3 W → (W.cell? ⟨w.heap.size, 0, none⟩ = some (.int .i64 1) ∧ W.cell? ⟨w.heap.size, 1, none⟩ = some (.int .i64 1) ∧ W.cell? ⟨w.heap.size, 2, none⟩ = some (.slice none 0 0) ∧ W.cell? ⟨w.heap.size, 3, none⟩ = some (.slice none 0 0)) ∧ (W.cell? ⟨w2.heap.size, 0, none⟩ = some (.int .i64 7) ∧ W.cell? ⟨w2.heap.size, 1, none⟩ = some (.int .i64 m2) ∧ W.cell? ⟨w2.heap.size, 2, none⟩ = some (.slice A2 la2 ca2) ∧ W.cell? ⟨w2.heap.size, 3, none⟩ = some (.slice K2 1 ck2)) := fun W hW =>
    ⟨box4 hW hm3 (Nat.lt_of_lt_of_le HZ1.out (Nat.le_trans hb2.size hb3.size)), box4 hW hn3 hz3⟩
  have hright := right_any atom1 (fun _ => True) (.agg #[.int .i64 1, .int .i64 1, .slice none 0 0, .slice none 0 0]) W3 ⟨_, _, _, _, rfl, tm_leaf _ _ 1 1 (by unfold I64; omega) (by unfold I64; omega)⟩
  rw [atom_right] at hright
  have hsize := fun W (hW : Below W3.heap.size W3 W) => size_any _ (pow0 exp0 atom1) (Nat.le_refl _) (by rw [sz1]; omega) (.agg #[.int .i64 7, .int .i64 m2, .slice A2 la2 ca2, .slice K2 1 ck2]) W ⟨_, _, _, _, rfl, TmC.below hW _ _ _ _ _ hk3⟩
  have hord := fun W (hW : Below W3.heap.size W3 W) => order_any atom1 (pow0 exp0 atom1) (fun _ => True) _ (.agg #[.int .i64 1, .int .i64 1, .slice none 0 0, .slice none 0 0]) (.agg #[.int .i64 7, .int .i64 m2, .slice A2 la2 ca2, .slice K2 1 ck2]) W ⟨_, _, _, _, rfl, tm_leaf _ _ 1 1 (by unfold I64; omega) (by unfold I64; omega)⟩ ⟨_, _, _, _, rfl, TmC.below hW _ _ _ _ _ hk3⟩
  rw [ord1] at hord
  rw [sz1] at hsize
  have HBOX := Lib.hid hbox
  have HR := Lib.hid hright
  have HS := Lib.hid hsize
  have HO := Lib.hid hord
  have HB3 := Lib.hid hB3
  obtain ⟨⟨a0, a1, a2, a3⟩, b0, b1, b2, b3⟩ := hbox W3 (Below.refl _ _)
  clear hbox hright hsize hord hB3 hk3 hm3 hz3 hn3 hb3 hk2 hn2 hb2 HP c0 c1 c2 c3 HB1 HN1 HZ1
  go_wp2_with fail
  clear hW3
  refine HR.out.mono ?_
  rintro e w4 ⟨rfl, hb4⟩
  obtain ⟨⟨c0, c1, c2, c3⟩, d0, d1, d2, d3⟩ := HBOX.out w4 hb4
  have h4 := HS.out w4 hb4
  have H4 := Lib.hid h4
  have HB4 := Lib.hid hb4
  clear h4 hb4 a0 a1 a2 a3 b0 b1 b2 b3 HR HS
  go_wp2_with fail
  refine H4.out.mono ?_
  rintro e w5 ⟨rfl, hb5⟩
  have hb5 := HB4.out.trans (hb5.mono HB4.out.size)
  obtain ⟨⟨a0, a1, a2, a3⟩, b0, b1, b2, b3⟩ := HBOX.out w5 hb5
  have h5 := HO.out w5 hb5
  have H5 := Lib.hid h5
  have HB5 := Lib.hid hb5
  clear h5 hb5 c0 c1 c2 c3 d0 d1 d2 d3 H4 HB4 HO HBOX
  go_wp2_with fail
  refine H5.out.mono ?_
  rintro e w6 ⟨rfl, hb6⟩
  have hend := HB3.out.trans ((HB5.out.trans (hb6.mono HB5.out.size)).mono HB3.out.size)
  clear H5 HB5 HB3 hb6
  go_wp2
  go_ret
  exact ⟨rfl, hend⟩
/-- -1, 0, 1. -/
theorem sign_any (n : Int) (w : World) (h : Sg n) : Calls Try.prog 16 #[.int .i64 n] w fun e w' => e = .returned (.int .i64 n) ∧ w = w' := by
  rcases h with rfl | rfl | rfl
  all_goals
    go_enter Try.func16, Try.ntmps16
    go_wp2
    go_ret
    exact ⟨rfl, rfl⟩
end Go.Proofs.Ytoaacacbjimloaa.tmc
