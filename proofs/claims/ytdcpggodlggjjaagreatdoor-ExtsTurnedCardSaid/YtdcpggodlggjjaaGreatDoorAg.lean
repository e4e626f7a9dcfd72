/- The library's Grow (of nothing) and Concat, of lists of nodes; the program's joined. -/
import Derived.Test.YtdcpggodlggjjaaGreatDoorAd
import Derived.Lib.AppendZeros
namespace Go.Proofs.YtdcpggodlggjjaaGreatDoor.nmc
open Go.RowKit Go.Proofs.YtdcpggodlggjjaaGreatDoor.tlvc Go.Proofs.YtdcpggodlggjjaaGreatDoor.tlvd Go.Proofs.YtdcpggodlggjjaaGreatDoor.ndc Go.Proofs.YtdcpggodlggjjaaGreatDoor.txc Go.Proofs.YtdcpggodlggjjaaGreatDoor.txm Go.Proofs.YtdcpggodlggjjaaGreatDoor.intc Go.Proofs.YtdcpggodlggjjaaGreatDoor.intm
set_option linter.unusedVariables false
set_option linter.unusedSimpArgs false
set_option maxRecDepth 100000 in
set_option maxHeartbeats 4000000 in
theorem growNil_any (Y : Nat → Prop) (n : Nat) (w : World) (hn : n ≤ 100000) :
 Calls Tryz.prog 142 #[.slice none 0 0, .int .i64 n] w fun e w' => Below w.heap.size w w' ∧ ∃ A c, e = .returned (.slice A 0 c) ∧ GRow ndE 33 w.heap.size Y w' (.slice A 0 c) [] := by
 obtain ⟨i0, hi, hz0, hz1, hz2⟩ := info_parts ndc.Tryz.infoNode
 have hneg : ¬ (n : Int) < 0 := by omega
 have h00 : wrap64 ((0 : Int) - 0) = 0 := by unfold wrap64; omega
 have h01 : wrap64 ((n : Int) - 0) = n := by unfold wrap64; omega
 rcases Nat.eq_zero_or_pos n with h0 | h0
 ·subst h0
  clear hneg h01
  go_enter Tryz.func142, Tryz.ntmps142
  go_wp2
  go_ret
  exact ⟨Below.refl _ _, none, 0, rfl, GRow.nil⟩
 ·have hpos : (0 : Int) < (n : Int) := by omega
  have hrun := Lib.run_append_nil_zeros (P := Tryz.prog) w 31 3 31 33 i0 _ .i64 .i64 Tryz.underlying31 Tryz.underlying3 hi hz0 n h0 (by rw [hz1]; decide) (by omega) (by rw [hz2]; omega)
  have hge := grownCap_ge w n 0 33
  have hle := grownCap_le_maxLen w n 0 33 (by unfold maxLen; omega)
  have hown : (w.drew.alloc (.cells (Builtin.zeroCells (Value.agg #[.int .u8 0, .slice none 0 0, .slice none 0 0]).cells n ++ Builtin.zeroCells (Value.agg #[.int .u8 0, .slice none 0 0, .slice none 0 0]).cells (grownCap w n 0 33 - n)) 33)).ownsRow w.heap.size 33 3 (.slice (some ⟨w.heap.size, 0, none⟩) 0 (grownCap w n 0 33)) 0 [] :=
   World.ownsRow_made w.drew _ _ (Nat.le_refl _) hle (by
    rw [Array.size_append]
    have hz : ∀ k, (Builtin.zeroCells (Value.agg #[.int .u8 0, .slice none 0 0, .slice none 0 0]).cells k).size = k * 3 := fun k => by simp [Builtin.zeroCells, Value.cells]
    rw [hz, hz]
    omega)
  have hb : Below w.heap.size w (w.drew.alloc (.cells (Builtin.zeroCells (Value.agg #[.int .u8 0, .slice none 0 0, .slice none 0 0]).cells n ++ Builtin.zeroCells (Value.agg #[.int .u8 0, .slice none 0 0, .slice none 0 0]).cells (grownCap w n 0 33 - n)) 33)) := ((Below.refl w.heap.size w).drew).alloc (Nat.le_refl _) _
  obtain ⟨cp, hcp⟩ : ∃ x, grownCap w n 0 33 = x := ⟨_, rfl⟩
  rw [hcp] at hrun hown hb hle hge
  obtain ⟨W2, hW2⟩ : ∃ x, w.drew.alloc (.cells (Builtin.zeroCells (Value.agg #[.int .u8 0, .slice none 0 0, .slice none 0 0]).cells n ++ Builtin.zeroCells (Value.agg #[.int .u8 0, .slice none 0 0, .slice none 0 0]).cells (cp - n)) 33) = x := ⟨_, rfl⟩
  rw [hW2] at hrun hown hb
  have h9 : cp ≤ 9223372036854775807 := by unfold maxLen at hle; omega
  have HE := Lib.hid (And.intro hb hown)
  clear hb hown hW2 hcp hle hge
  go_enter Tryz.func142, Tryz.ntmps142
  go_wp2_with (at_builtin; go_loud (refine Lib.wpList_append_run _ rfl (.tmp 20) (.tmp 21) 31 3 rfl _ _ rfl rfl _ _ hrun ?_))
  clear hrun
  go_wp2
  go_ret
  exact ⟨HE.out.1, _, cp, rfl, [], HE.out.2, rfl⟩
theorem nn_add (a b : Nat) : ¬ ((a : Int) + (b : Int)) < 0 := by omega
theorem wrap_nn (a b : Nat) (h : a + b ≤ 100000) : wrap64 ((a : Int) + (b : Int)) = (a : Int) + (b : Int) := by unfold wrap64; omega
theorem flat_take {α : Type} (LL : List (List α)) {i : Nat} (hi : i < LL.length) : (LL.take (i + 1)).flatten = (LL.take i).flatten ++ LL[i] := by
 rw [List.take_succ_eq_append_getElem hi, List.flatten_append, List.flatten_singleton]
theorem flat_le {α : Type} (LL : List (List α)) (i : Nat) : ((LL.take i).flatten).length ≤ LL.flatten.length := by
 conv => rhs; rw [← List.take_append_drop i LL, List.flatten_append, List.length_append]
 omega
set_option maxRecDepth 100000 in
set_option maxHeartbeats 8000000 in
theorem concat_any (S : Nat → Prop) (A : Option Addr) (n c : Nat) (LL : List (List Nd)) (w : World) (hS : ∀ g, w.heap.size ≤ g → S g) (hl : LL.length = n) (hL : Lst (lsE ndE) S w A LL) (hc : n ≤ c) (hm : c ≤ maxLen) (hn : n ≤ 1000) (hf : LL.flatten.length ≤ 1000) :
 Calls Tryz.prog 77 #[.slice A n c] w (LVal ndE S w LL.flatten) := by
 have h9 : c ≤ 9223372036854775807 := by unfold maxLen at hm; omega
 have hel : ∀ (i : Nat) (hi : i < LL.length) (wx : World), Below w.heap.size w wx → ∃ g off B k, A = some ⟨g, off, none⟩ ∧ wx.cell? ⟨g, off + i, none⟩ = some (.slice B (LL[i]).length k) ∧ (LL[i]).length ≤ k ∧ k ≤ maxLen ∧ Lst ndE (fun g => S g ∧ g < w.heap.size) wx B LL[i] := fun i hi wx hb => by
  obtain ⟨g, off, cs, e, _, hcell, c0, rfl, B, k, rfl, h1, h2, h3⟩ := hL.at i hi
  have e0 := hcell 0 _ rfl
  rw [show (lsE ndE).sz = 1 from rfl, Nat.mul_one, Nat.add_zero] at e0
  exact ⟨g, off, B, k, e, cell_on hb e0, h1, h2, h3.boundS.below hb⟩
 obtain ⟨T, hT⟩ : ∃ T : Nat → Nat, ∀ i, ((LL.take i).flatten).length = T i := ⟨fun i => ((LL.take i).flatten).length, fun _ => rfl⟩
 have hT0 : T 0 = 0 := by rw [← hT 0]; rfl
 have hTs : ∀ i (hi : i < LL.length), T (i + 1) = T i + (LL[i]).length := fun i hi => by rw [← hT, ← hT, flat_take LL hi, List.length_append]
 have hTn : T n = LL.flatten.length := by rw [← hT, List.take_of_length_le (by omega)]
 have hTl : ∀ i, T i ≤ 1000 := fun i => by rw [← hT]; exact Nat.le_trans (flat_le LL i) hf
 have hgr := fun (wx : World) => growNil_any S (T n) wx (by have := hTl n; omega)
 have HL := Lib.hid (And.intro hl (And.intro hel (And.intro hS (And.intro hT (And.intro hTs (And.intro hTn hTl))))))
 have HG := Lib.hid hgr
 have HN := Lib.hid hn
 have hT0' : ((T 0 : Nat) : Int) = 0 := by rw [hT0]; rfl
 clear hl hL hel hS hT hTs hTn hTl hgr hn hf hm
 go_enter Tryz.func77, Tryz.ntmps77
 go_wp2_with fail
 go_loopg [3, 11] (n + 1) (fun gk s3 s11 wx => ∃ (i : Nat), s3 = .int .i64 (T i : Nat) ∧ s11 = .int .i64 i ∧ i ≤ n ∧ n - i < gk ∧ wx = w)
 case atStart => exact ⟨0, by rw [hT0'], rfl, by omega, by omega, rfl⟩
 case round =>
  obtain ⟨i, rfl, rfl, hi, hgk, rfl⟩ := hrel
  by_cases hlt : i < n
  ·have hltz : (i : Int) < (n : Int) := by omega
   obtain ⟨gk', rfl⟩ : ∃ g', gk = g' + 1 := ⟨gk - 1, by omega⟩
   have HNX := Lib.hid (And.intro (show i + 1 ≤ n from hlt) (show n - (i + 1) < gk' by omega))
   have hix : i < LL.length := by rw [HL.out.1]; exact hlt
   obtain ⟨g, off, B, k, rfl, e0, _⟩ := HL.out.2.1 i hix _ (Below.refl _ _)
   have hs := HL.out.2.2.2.2.1 i hix
   have hl1 := HL.out.2.2.2.2.2.2 (i + 1)
   obtain ⟨li, hli⟩ : ∃ x, (LL[i]).length = x := ⟨_, rfl⟩
   rw [hli] at e0 hs
   have hw := wrap_nn (T i) li (by omega)
   have hng := nn_add (T i) li
   have HS := Lib.hid (show ((T i : Nat) : Int) + (li : Int) = ((T (i + 1) : Nat) : Int) by omega)
   clear hs hl1 hgk hli
   go_wp2
   go_roundg gk'
   case measure => omega
   case rel => exact ⟨i + 1, by rw [HS.out], by go_num, HNX.out.1, HNX.out.2, rfl⟩
  ·obtain rfl : n = i := by omega
   have hltz : ¬ (n : Int) < (n : Int) := by omega
   clear hgk
   go_wp2_with fail
   refine (HG.out _).mono ?_
   rintro e w1 ⟨hb1, A1, c1, rfl, hrow⟩
   have HR := Lib.hid (And.intro hb1 hrow)
   clear hb1 hrow HG
   go_wp2_with fail
   go_loopg [6, 27] (n + 1) (fun gk s6 s27 wx => ∃ (i : Nat) (Av : Option Addr) (cv : Nat), s6 = .slice Av (T i) cv ∧ s27 = .int .i64 i ∧ i ≤ n ∧ n - i < gk ∧ Hid (Below wr.heap.size wr wx ∧ GRow ndE 33 wr.heap.size S wx (.slice Av (T i) cv) ((LL.take i).flatten)))
   case atStart => exact ⟨0, A1, c1, by first | rfl | (rw [show T 0 = 0 by omega]), rfl, by omega, by omega, Lib.hid ⟨HR.out.1, by rw [show T 0 = 0 by omega]; exact HR.out.2⟩⟩
   case round =>
    obtain ⟨i, Av, cv, rfl, rfl, hi2, hgk, HI⟩ := hrel
    by_cases hlt2 : i < n
    ·have hltz2 : (i : Int) < (n : Int) := by omega
     obtain ⟨gk', rfl⟩ : ∃ g', gk = g' + 1 := ⟨gk - 1, by omega⟩
     have HNX := Lib.hid (And.intro (show i + 1 ≤ n from hlt2) (show n - (i + 1) < gk' by omega))
     have hix : i < LL.length := by rw [HL.out.1]; exact hlt2
     obtain ⟨g, off, B, k, rfl, e0, k1, k2, k3⟩ := HL.out.2.1 i hix _ HI.out.1
     have hs := HL.out.2.2.2.2.1 i hix
     have hl1 := HL.out.2.2.2.2.2.2 (i + 1)
     have hTi := HL.out.2.2.2.1 i
     have hown := HI.out.2.lt
     obtain ⟨v', w', hrun, hrow, hgr⟩ := HI.out.2.apps (ys := LL[i]) (A := B) (c := k) Tryz.infN HL.out.2.2.1 31 (k3.on (Nat.le_refl _) (fun _ _ _ => rfl) (fun g hg hl => ⟨hg.1, hl, fun e => by have := (hown g e.symm).1; omega⟩)) (by rw [hTi]; omega) (by rw [hTi]; unfold maxLen; omega) HI.out.1.size
     obtain ⟨A7, c7, rfl, q1, q2⟩ := hrow.shape
     have hT1 : ((LL.take i).flatten ++ LL[i]).length = T (i + 1) := by rw [← flat_take LL hix]; exact HL.out.2.2.2.1 (i + 1)
     rw [hT1, ← flat_take LL hix] at hrow
     rw [hT1] at hrun
     have hb7 := HI.out.1.grown hgr HI.out.1.size (fun j hj => (hown j hj).1)
     have HI7 := Lib.hid (And.intro hb7 hrow)
     obtain ⟨li, hli⟩ : ∃ x, (LL[i]).length = x := ⟨_, rfl⟩
     rw [hli] at e0 hrun
     clear hb7 hrow hgr hs hl1 hgk hli k1 k2 k3 hTi hown q1 q2 hT1
     go_wp2_with (at_builtin; refine wpl_append rfl (.tmp 31) (.tmp 32) 31 rfl _ _ _ rfl rfl hrun ?_)
     clear hrun
     go_wp2
     go_roundg gk'
     case measure => omega
     case rel => exact ⟨i + 1, A7, c7, rfl, by go_num, HNX.out.1, HNX.out.2, HI7⟩
    ·obtain rfl : n = i := by omega
     obtain ⟨A2, c2, e2, h1, h2, hLn⟩ := HI.out.2.lst HL.out.2.2.1
     rw [List.take_of_length_le (by rw [HL.out.1]; exact Nat.le_refl _)] at e2 h1 hLn
     simp only [Value.slice.injEq] at e2
     obtain ⟨rfl, hTe, rfl⟩ := e2
     have HF := Lib.hid (And.intro HI.out.1 (And.intro h1 (And.intro h2 (And.intro hLn hTe))))
     clear h1 h2 hLn hgk hTe
     go_wp2
     go_ret
     exact ⟨HF.out.1, Av, cv, by rw [HF.out.2.2.2.2]; rfl, HF.out.2.1, HF.out.2.2.1, HF.out.2.2.2.1⟩
set_option maxRecDepth 100000 in
set_option maxHeartbeats 4000000 in
theorem joined_any (S : Nat → Prop) (t : Int) (A : Option Addr) (n c : Nat) (LL : List (List Nd)) (w : World) (ht : 0 ≤ t ∧ t ≤ 255) (hS : ∀ g, w.heap.size ≤ g → S g) (hl : LL.length = n) (hL : Lst (lsE ndE) S w A LL) (hc : n ≤ c) (hm : c ≤ maxLen) (hn : n ≤ 1000) (hf : LL.flatten.length ≤ 1000) :
 Calls Tryz.prog 21 #[.int .u8 t, .slice A n c] w (NVal S w (.mk t [] LL.flatten)) := by
 obtain ⟨W0, hW0⟩ : ∃ x, w.alloc (.cells #[.int .u8 0, .slice none 0 0, .slice none 0 0] 33) = x := ⟨_, rfl⟩
 have hb0 : Below w.heap.size w W0 := by rw [← hW0]; exact below_new _ _
 have p0 : W0.heap[w.heap.size]? = some (.cells #[.int .u8 0, .slice none 0 0, .slice none 0 0] 33) := by rw [← hW0]; exact heap_new_ _ _
 have hz0 : W0.heap.size = w.heap.size + 1 := by rw [← hW0]; simp
 have HC := Lib.hid (concat_any (fun g => S g ∧ g ≠ w.heap.size) A n c LL W0 (fun g hg => ⟨hS g (by omega), by omega⟩) hl (hL.on hb0.size (fun g _ hg => hb0.block g hg) (fun g hg hlt => ⟨hg, by omega⟩)) hc hm hn hf)
 have HB := Lib.hid (And.intro hb0 (And.intro p0 (And.intro hz0 ht)))
 obtain ⟨ks, hks⟩ : ∃ x, LL.flatten = x := ⟨_, rfl⟩
 rw [hks] at HC ⊢
 clear hb0 p0 hz0 hks hS hl hL hc hm hn hf ht
 go_enter Tryz.func21, Tryz.ntmps21
 go_wp2_with fail
 refine HC.out.mono ?_
 rintro e w1 ⟨hb1, A1, c1, rfl, h1, h2, h3⟩
 have hz := HB.out.2.2.1
 have p1 := (hb1.block w.heap.size (by omega)).trans HB.out.2.1
 have hB1 := below_then HB.out.1 hb1 (Nat.le_refl _)
 have hnd : NdC (fun g => S g ∧ g ≠ w.heap.size) w1 (.mk t [] ks) (.int .u8 t) (.slice none 0 0) (.slice A1 ks.length c1) := ndC_of HB.out.2.2.2 h1 h2 h3
 obtain ⟨r0, r1, r2, hB⟩ := res3 (y0 := .int .u8 t) (y1 := .slice none 0 0) (y2 := .slice A1 ks.length c1) (Nat.le_refl _) hB1 p1
 have hn2 := res3_nd (b := w.heap.size) (y0 := .int .u8 t) (y1 := .slice none 0 0) (y2 := .slice A1 ks.length c1) (fun g hg => hg.2) hnd
 have f0 := Lib.frozen_of_heap p1 0
 have f1 := Lib.frozen_of_heap p1 1
 have f2 := Lib.frozen_of_heap p1 2
 have s0 := (Lib.cell_of_heap p1 0).trans rfl
 have s1 := (Lib.cell_of_heap p1 1).trans rfl
 have s2 := (Lib.cell_of_heap p1 2).trans rfl
 have HE := Lib.hid (And.intro hB (NdC.mono (B' := S) (fun g hg => hg.1) _ _ _ _ hn2))
 obtain ⟨len, hlen⟩ : ∃ x, ks.length = x := ⟨_, rfl⟩
 rw [hlen] at r0 r1 r2 HE ⊢
 clear hB hn2 hnd p1 hB1 h1 h2 h3 hb1 HC HB hz hlen
 go_wp2_with fail
 refine bodyPost_ret (v := .agg #[.int .u8 t, .slice none 0 0, .slice A1 len c1]) ?_ rfl ⟨HE.out.1, _, _, _, _, _, _, _, rfl, HE.out.2⟩
 simp [results, Tryz.results21, go_sem, r0, r1, r2]
end Go.Proofs.YtdcpggodlggjjaaGreatDoor.nmc
