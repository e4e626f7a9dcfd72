/- The program's clockOf, walked. -/
import Derived.Test.YtajiolcdjjkedaaDoorTxM
namespace Go.Proofs.YtajiolcdjjkedaaDoor.txc
open Go.RowKit Go.Proofs.YtajiolcdjjkedaaDoor.txm Go.Proofs.YtajiolcdjjkedaaDoor.tlvc
set_option linter.unusedVariables false

/-- What is left of the body behind k rounds. -/
def Left (tag : Int) (xs : List Int) (cap : Nat) (k : Nat) (v : Value) (w : World) : Prop :=
  ∃ A : Option Addr, v = .slice A (xs.length - 2 * gone tag xs.length k) (cap - 2 * gone tag xs.length k) ∧ Bys w A (xs.length - 2 * gone tag xs.length k) (xs.drop (2 * gone tag xs.length k))
theorem gone_le (tag : Int) (n k : Nat) : 2 * gone tag n k ≤ n := by unfold gone; omega
/-- Is there a pair for this round? -/
def pairAt (tag : Int) (n k : Nat) : Prop := (tag = 23 → 1 ≤ k) ∧ 2 * (if tag = 23 then k - 1 else k) + 2 ≤ n
theorem pair_yes {tag : Int} {xs : List Int} {k : Nat} (h : pairAt tag xs.length k) : gone tag xs.length (k + 1) = gone tag xs.length k + 1 ∧ 2 * gone tag xs.length k + 2 ≤ xs.length ∧ fldAt tag xs k = 10 * dgt (xs.getD (2 * gone tag xs.length k) 0) + dgt (xs.getD (2 * gone tag xs.length k + 1) 0) := by
  obtain ⟨h1, h2⟩ := h
  unfold gone fldAt
  by_cases ht : tag = 23
  · simp only [ht, if_true] at h1 h2 ⊢
    have h1 := h1 trivial
    rw [if_neg (by omega)]
    have e : min (k - 1) (xs.length / 2) = k - 1 := by omega
    rw [e]
    refine ⟨by omega, by omega, ?_⟩
    unfold pr; rw [if_pos h2]
  · simp only [ht, if_false] at h2 ⊢
    have e : min k (xs.length / 2) = k := by omega
    rw [e]
    refine ⟨by omega, by omega, ?_⟩
    unfold pr; rw [if_pos h2]
theorem pair_no {tag : Int} {xs : List Int} {k : Nat} (h : ¬ pairAt tag xs.length k) : gone tag xs.length (k + 1) = gone tag xs.length k ∧ fldAt tag xs k = 0 ∧ (¬ (tag = 23 ∧ k = 0) → xs.length - 2 * gone tag xs.length k < 2) := by
  unfold pairAt at h
  unfold gone fldAt
  by_cases ht : tag = 23
  · simp only [ht, if_true, true_implies] at h ⊢
    by_cases hk : k = 0
    · subst hk
      refine ⟨by simp, by simp, fun h => absurd ⟨trivial, rfl⟩ h⟩
    · have h3 : ¬ 2 * (k - 1) + 2 ≤ xs.length := fun h4 => h ⟨by omega, h4⟩
      refine ⟨by omega, ?_, fun _ => by omega⟩
      rw [if_neg hk]; unfold pr; rw [if_neg h3]
  · simp only [ht, if_false, false_implies, true_and] at h ⊢
    refine ⟨by omega, ?_, fun _ => by omega⟩
    unfold pr; rw [if_neg h]

def ints7 (fs : List Int) : Value := .agg (ints fs)

set_option maxRecDepth 100000 in
set_option maxHeartbeats 4000000 in
theorem clockOf_any (tag : Int) (A : Option Addr) (n cap : Nat) (xs : List Int) (w : World) (hx : Bys w A n xs) (hc : n ≤ cap) (hm : cap ≤ 9223372036854775807) :
    Calls Tryd.prog 41 #[.int .u8 tag, .slice A n cap] w fun e w' => e = .returned (ints7 (fldsOf tag xs)) ∧ Below w.heap.size w w' := by
  obtain rfl : xs.length = n := hx.1
  obtain ⟨RS, hRS⟩ : ∃ RS, fldsOf tag xs = RS := ⟨_, rfl⟩
  rw [hRS]
  have HRS := Lib.hid hRS
  clear hRS
  go_enter Tryd.func41, Tryd.ntmps41
  go_wp2_with fail
  have hstart : ClockAt w ((w.alloc (.cells #[.int .i64 0, .int .i64 0, .int .i64 0, .int .i64 0, .int .i64 0, .int .i64 0, .int .i64 0] 58)).alloc (.cells #[.int .i64 0, .int .i64 0, .int .i64 0, .int .i64 0, .int .i64 0, .int .i64 0, .int .i64 0] 58)) (fldK tag xs 0) :=
    ⟨by rw [heap_old _ _ (by simp)]; exact heap_new _ _, heap_at _ _ _ (by simp), ((Below.refl _ _).alloc (Nat.le_refl _) _).alloc (by simp) _⟩
  have hleft : Left tag xs cap 0 (.slice A xs.length cap) w := by
    have e : gone tag xs.length 0 = 0 := by unfold gone; split <;> omega
    unfold Left
    rw [e]
    exact ⟨A, rfl, hx⟩
  have HS := Lib.hid hstart
  have HL := Lib.hid hleft
  clear hstart hleft
  go_loopw [1, 6, 7] (fun t1 _ t7 wr => ∃ k : Nat, k ≤ 7 ∧ t7 = .int .i64 k ∧ Left tag xs cap k t1 w ∧ ClockAt w wr (fldK tag xs k)) (fun _ _ t7 _ => 8 - (intOf t7).toNat)
  case atStart => exact ⟨0, by omega, rfl, HL.out, HS.out⟩
  case round =>
    obtain ⟨k, hk, rfl, ⟨A1, rfl, hb1⟩, hck⟩ := hrel
    have hgl := gone_le tag xs.length k
    by_cases hlt : k < 7
    · by_cases hp : pairAt tag xs.length k
      · obtain ⟨p1, p2, p3⟩ := pair_yes hp
        have hno : ¬ (tag = 23 ∧ k = 0) := fun h => by have := hp.1 h.1; omega
        obtain ⟨G, hG⟩ : ∃ G, gone tag xs.length k = G := ⟨_, rfl⟩
        have hleft : ∀ (A2 : Option Addr), Bys w A2 (xs.length - 2 * G - 2) (xs.drop (2 * G + 2)) → Left tag xs cap (k + 1) (.slice A2 (xs.length - 2 * G - 2) (cap - 2 * G - 2)) w := fun A2 h => by
          unfold Left
          rw [p1, hG]
          refine ⟨A2, ?_, ?_⟩
          · rw [show xs.length - 2 * (G + 1) = xs.length - 2 * G - 2 by omega, show cap - 2 * (G + 1) = cap - 2 * G - 2 by omega]
          · rw [show xs.length - 2 * (G + 1) = xs.length - 2 * G - 2 by omega, show 2 * (G + 1) = 2 * G + 2 by omega]; exact h
        rw [hG] at p2 p3 hb1 hgl ⊢
        have hset := fldK_set tag xs hlt (v := 10 * dgt (xs.getD (2 * G) 0) + dgt (xs.getD (2 * G + 1) 0)) p3.symm
        have hcut := hb1.cut (k := 2) (cap := cap - 2 * G) (by omega) (by omega)
        rw [List.drop_drop] at hcut
        obtain ⟨b, off, rfl, hblt, hcells⟩ := (hb1.below hck.2.2).2.2 (by omega)
        have hc0 : wr.cell? ⟨b, off, none⟩ = some (.int .u8 (xs.getD (2 * G) 0)) := by
          have := hcells 0 (by omega); rw [Nat.add_zero] at this; rw [this]; simp [List.getD_eq_getElem?_getD]
        have hc1 : wr.cell? ⟨b, off + 1, none⟩ = some (.int .u8 (xs.getD (2 * G + 1) 0)) := by
          rw [hcells 1 (by omega)]; simp [List.getD_eq_getElem?_getD]
        obtain ⟨X0, hX0⟩ : ∃ X, xs.getD (2 * G) 0 = X := ⟨_, rfl⟩
        obtain ⟨X1, hX1⟩ : ∃ X, xs.getD (2 * G + 1) 0 = X := ⟨_, rfl⟩
        rw [hX0, hX1] at hset
        rw [hX0] at hc0
        rw [hX1] at hc1
        have hd0 := dgt_bd X0
        have hd1 := dgt_bd X1
        have hw0 : IntKind.u8.wrap (X0 - 48) = dgt X0 := rfl
        have hw1 : IntKind.u8.wrap (X1 - 48) = dgt X1 := rfl
        obtain ⟨D0, hD0⟩ : ∃ D, dgt X0 = D := ⟨_, rfl⟩
        obtain ⟨D1, hD1⟩ : ∃ D, dgt X1 = D := ⟨_, rfl⟩
        rw [hD0] at hd0 hw0 hset
        rw [hD1] at hd1 hw1 hset
        obtain ⟨hd0, hd0'⟩ := hd0
        obtain ⟨hd1, hd1'⟩ := hd1
        have hstore : ∀ wx : World, ClockAt w wx (fldK tag xs k) → ClockAt w (wx.setCell ⟨w.heap.size + 1, k, none⟩ (.int .i64 (10 * D0 + D1))) (fldK tag xs (k + 1)) := fun wx h => by rw [← hset]; exact h.store k _
        obtain ⟨L, hL⟩ : ∃ L, xs.length - 2 * G = L := ⟨_, rfl⟩
        obtain ⟨C, hC⟩ : ∃ C, cap - 2 * G = C := ⟨_, rfl⟩
        have hL2 : 2 ≤ L := by omega
        have hLC : L ≤ C := by omega
        rw [hL, hC] at hleft
        rw [hL] at hcut
        rw [hC] at hcut
        rw [hL, hC]
        have hcell := hck.cell (k := k) (by rw [fldK_len]; omega)
        have hfree := hck.free k
        have HLF := Lib.hid hleft
        have HST := Lib.hid hstore
        have HCU := Lib.hid hcut
        have HK := Lib.hid hck
        have HNO := Lib.hid hno
        clear hleft hset hcells hX0 hX1 hD0 hD1 hstore hL hC p1 p2 p3 hG hb1 hgl hp hck hx hno hblt
        have hLt : ¬ ((L : Int) < 2) := by omega
        have hl0 : 0 < L := by omega
        have hl1 : 1 < L := by omega
        have hl0' : (0 : Int) < L := by omega
        have hl1' : (1 : Int) < L := by omega
        have hw2 : IntKind.i64.wrap D0 = D0 := IntWalk.i64_in _ (by omega)
        have hw3 : IntKind.i64.wrap D1 = D1 := IntWalk.i64_in _ (by omega)
        have hw4 : IntKind.i64.wrap (10 * D0) = 10 * D0 := IntWalk.i64_in _ (by omega)
        have hw5 : IntKind.i64.wrap (10 * D0 + D1) = 10 * D0 + D1 := IntWalk.i64_in _ (by omega)
        have hkn : ((k : Int)).toNat = k := by omega
        have hk0 : (0 : Int) ≤ (k : Int) := by omega
        have hk7 : (k : Int) < 7 := by omega
        by_cases hz : k = 0
        · have ht : (tag == 23) = false := by
            have : tag ≠ 23 := fun e => HNO.out ⟨e, hz⟩
            simpa using this
          have hb0 : ((k : Int) == 0) = true := by simp [hz]
          clear hz
          go_wp2_with fail
          refine wp_region_still_tail 14 (by kernel_rfl) (by kernel_rfl) ?_
          simp only [List.take_succ_cons, List.take_zero, List.drop_succ_cons, List.drop_zero]
          repeat still_step
          refine wpStill_nil ?_
          change wpList _ _ _ _ _ wr.drew
          by_cases hC2 : C = 2
          · have hcv : Bys w (some ⟨b, off, none⟩) (L - 2) (xs.drop (2 * G + 2)) := by have := HCU.out; rwa [if_pos hC2] at this
            have HV := Lib.hid hcv
            have hL2' : L = 2 := by omega
            subst hL2'
            subst hC2
            clear hcv hw0 hw1 hw2 hw3 hw4 hw5 hc0 hc1
            go_wp2
            go_roundw
            case rel => exact ⟨k + 1, by omega, by go_num, HLF.out _ HV.out, HST.out _ HK.out.drew⟩
            case measure => simp [intOf]; omega
          · have hcv : Bys w (some ⟨b, off + 2, none⟩) (L - 2) (xs.drop (2 * G + 2)) := by have := HCU.out; rw [if_neg hC2] at this; simpa [Addr.add_lit] using this
            have HV := Lib.hid hcv
            clear hcv hw0 hw1 hw2 hw3 hw4 hw5 hc0 hc1
            go_wp2
            go_roundw
            case rel => exact ⟨k + 1, by omega, by go_num, HLF.out _ HV.out, HST.out _ HK.out.drew⟩
            case measure => simp [intOf]; omega
        · have hb0 : ((k : Int) == 0) = false := by simp [hz]
          clear hz
          go_wp2_with fail
          refine wp_region_still_tail 14 (by kernel_rfl) (by kernel_rfl) ?_
          simp only [List.take_succ_cons, List.take_zero, List.drop_succ_cons, List.drop_zero]
          repeat still_step
          refine wpStill_nil ?_
          change wpList _ _ _ _ _ wr.drew
          by_cases hC2 : C = 2
          · have hcv : Bys w (some ⟨b, off, none⟩) (L - 2) (xs.drop (2 * G + 2)) := by have := HCU.out; rwa [if_pos hC2] at this
            have HV := Lib.hid hcv
            have hL2' : L = 2 := by omega
            subst hL2'
            subst hC2
            clear hcv hw0 hw1 hw2 hw3 hw4 hw5 hc0 hc1
            go_wp2
            go_roundw
            case rel => exact ⟨k + 1, by omega, by go_num, HLF.out _ HV.out, HST.out _ HK.out.drew⟩
            case measure => simp [intOf]; omega
          · have hcv : Bys w (some ⟨b, off + 2, none⟩) (L - 2) (xs.drop (2 * G + 2)) := by have := HCU.out; rw [if_neg hC2] at this; simpa [Addr.add_lit] using this
            have HV := Lib.hid hcv
            clear hcv hw0 hw1 hw2 hw3 hw4 hw5 hc0 hc1
            go_wp2
            go_roundw
            case rel => exact ⟨k + 1, by omega, by go_num, HLF.out _ HV.out, HST.out _ HK.out.drew⟩
            case measure => simp [intOf]; omega
      · obtain ⟨p1, p2, p3⟩ := pair_no hp
        have hleft : Left tag xs cap (k + 1) (.slice A1 (xs.length - 2 * gone tag xs.length k) (cap - 2 * gone tag xs.length k)) w := by unfold Left; rw [p1]; exact ⟨A1, rfl, hb1⟩
        have hskip := fldK_skip tag xs hlt p2
        have hck2 : ClockAt w wr (fldK tag xs (k + 1)) := by rw [hskip]; exact hck
        obtain ⟨G, hG⟩ : ∃ G, gone tag xs.length k = G := ⟨_, rfl⟩
        rw [hG] at p3 hleft hb1 hgl ⊢
        obtain ⟨L, hL⟩ : ∃ L, xs.length - 2 * G = L := ⟨_, rfl⟩
        obtain ⟨C, hC⟩ : ∃ C, cap - 2 * G = C := ⟨_, rfl⟩
        rw [hL, hC] at hleft
        rw [hL] at p3
        rw [hL, hC]
        have HLF := Lib.hid hleft
        have HK := Lib.hid hck2
        have HP := Lib.hid p3
        clear hleft hskip hck2 hck hL hC hG hb1 hgl hp p1 p2 p3 hx
        by_cases hz : k = 0
        · have hb0 : ((k : Int) == 0) = true := by simp [hz]
          by_cases htg : tag = 23
          · have ht : (tag == 23) = true := by simp [htg]
            clear hz htg
            go_wp2
            go_roundw
            case rel => exact ⟨k + 1, by omega, by go_num, HLF.out, HK.out⟩
            case measure => simp [intOf]; omega
          · have ht : (tag == 23) = false := by simpa using htg
            have hLt : (L : Int) < 2 := by have := HP.out (fun h => htg h.1); omega
            clear hz htg
            go_wp2
            go_roundw
            case rel => exact ⟨k + 1, by omega, by go_num, HLF.out, HK.out⟩
            case measure => simp [intOf]; omega
        · have hb0 : ((k : Int) == 0) = false := by simp [hz]
          have hLt : (L : Int) < 2 := by have := HP.out (fun h => hz h.2); omega
          clear hz
          go_wp2
          go_roundw
          case rel => exact ⟨k + 1, by omega, by go_num, HLF.out, HK.out⟩
          case measure => simp [intOf]; omega
    · have hk7 : k = 7 := by omega
      have hck7 : ClockAt w wr (fldK tag xs 7) := by rw [← hk7]; exact hck
      have HK7 := Lib.hid hk7
      have r0 : wr.cell? ⟨w.heap.size, 0, none⟩ = some (.int .i64 0) := by rw [Lib.cell_of_heap hck.1]; rfl
      have f0 : wr.frozen? ⟨w.heap.size, 0, none⟩ = false := Lib.frozen_of_heap hck.1 0
      have r1 : wr.cell? ⟨w.heap.size, 1, none⟩ = some (.int .i64 0) := by rw [Lib.cell_of_heap hck.1]; rfl
      have f1 : wr.frozen? ⟨w.heap.size, 1, none⟩ = false := Lib.frozen_of_heap hck.1 1
      have r2 : wr.cell? ⟨w.heap.size, 2, none⟩ = some (.int .i64 0) := by rw [Lib.cell_of_heap hck.1]; rfl
      have f2 : wr.frozen? ⟨w.heap.size, 2, none⟩ = false := Lib.frozen_of_heap hck.1 2
      have r3 : wr.cell? ⟨w.heap.size, 3, none⟩ = some (.int .i64 0) := by rw [Lib.cell_of_heap hck.1]; rfl
      have f3 : wr.frozen? ⟨w.heap.size, 3, none⟩ = false := Lib.frozen_of_heap hck.1 3
      have r4 : wr.cell? ⟨w.heap.size, 4, none⟩ = some (.int .i64 0) := by rw [Lib.cell_of_heap hck.1]; rfl
      have f4 : wr.frozen? ⟨w.heap.size, 4, none⟩ = false := Lib.frozen_of_heap hck.1 4
      have r5 : wr.cell? ⟨w.heap.size, 5, none⟩ = some (.int .i64 0) := by rw [Lib.cell_of_heap hck.1]; rfl
      have f5 : wr.frozen? ⟨w.heap.size, 5, none⟩ = false := Lib.frozen_of_heap hck.1 5
      have r6 : wr.cell? ⟨w.heap.size, 6, none⟩ = some (.int .i64 0) := by rw [Lib.cell_of_heap hck.1]; rfl
      have f6 : wr.frozen? ⟨w.heap.size, 6, none⟩ = false := Lib.frozen_of_heap hck.1 6
      clear hk7 hck hb1 hgl
      have fin : ∀ (c0 c1 c2 c3 c4 c5 c6 : Int) (wf : World), fldsOf tag xs = [c0, c1, c2, c3, c4, c5, c6] → ClockAt w wf [c0, c1, c2, c3, c4, c5, c6] → (∀ j, j < 7 → wf.cell? ⟨w.heap.size + 1, j, none⟩ = some (.int .i64 ([c0, c1, c2, c3, c4, c5, c6].getD j 0))) ∧ wf.heap[w.heap.size]? = some (.cells #[.int .i64 0, .int .i64 0, .int .i64 0, .int .i64 0, .int .i64 0, .int .i64 0, .int .i64 0] 58) ∧ Below w.heap.size w wf := fun c0 c1 c2 c3 c4 c5 c6 wf _ h => ⟨fun j hj => h.cell (by simpa using hj), h.1, h.2.2⟩
      by_cases ht : tag = 23
      · subst ht
        have e7 : fldK 23 xs 7 = [0, pr xs 0, pr xs 1, pr xs 2, pr xs 3, pr xs 4, pr xs 5] := rfl
        have hfl : fldsOf 23 xs = [cent (pr xs 0), pr xs 0, pr xs 1, pr xs 2, pr xs 3, pr xs 4, pr xs 5] := if_pos rfl
        rw [e7] at hck7
        have HR := Lib.hid (HRS.out.symm.trans hfl)
        clear HRS
        have hA := hck7.store 0 20
        have hBk := hA.store 0 19
        obtain ⟨p0, hp0⟩ : ∃ p, pr xs 0 = p := ⟨_, rfl⟩
        obtain ⟨p1, hp1⟩ : ∃ p, pr xs 1 = p := ⟨_, rfl⟩
        obtain ⟨p2, hp2⟩ : ∃ p, pr xs 2 = p := ⟨_, rfl⟩
        obtain ⟨p3, hp3⟩ : ∃ p, pr xs 3 = p := ⟨_, rfl⟩
        obtain ⟨p4, hp4⟩ : ∃ p, pr xs 4 = p := ⟨_, rfl⟩
        obtain ⟨p5, hp5⟩ : ∃ p, pr xs 5 = p := ⟨_, rfl⟩
        rw [hp0, hp1, hp2, hp3, hp4, hp5] at hck7 hA hBk HR
        clear hp0 hp1 hp2 hp3 hp4 hp5 e7 hfl fin hx
        simp only [List.set_cons_zero] at hA hBk
        have z0 := hck7.cell (k := 0) (by simp)
        have z1 : wr.frozen? ⟨w.heap.size + 1, 0, none⟩ = false := hck7.free 0
        have a0 := hA.cell (k := 0) (by simp)
        have a1 := hA.cell (k := 1) (by simp)
        have a2 := hA.cell (k := 2) (by simp)
        have a3 := hA.cell (k := 3) (by simp)
        have a4 := hA.cell (k := 4) (by simp)
        have a5 := hA.cell (k := 5) (by simp)
        have a6 := hA.cell (k := 6) (by simp)
        have af := hA.free 0
        have b0 := hBk.cell (k := 0) (by simp)
        have b1 := hBk.cell (k := 1) (by simp)
        have b2 := hBk.cell (k := 2) (by simp)
        have b3 := hBk.cell (k := 3) (by simp)
        have b4 := hBk.cell (k := 4) (by simp)
        have b5 := hBk.cell (k := 5) (by simp)
        have b6 := hBk.cell (k := 6) (by simp)
        simp only [List.getD_cons_zero, List.getD_cons_succ] at z0 a0 a1 a2 a3 a4 a5 a6 b0 b1 b2 b3 b4 b5 b6
        have HA := Lib.hid hA
        have HB := Lib.hid hBk
        clear hA hBk hck7
        by_cases h50 : 50 ≤ p0
        · rw [show cent p0 = 19 from if_pos h50] at HR
          go_wp2
          have k0 := HB.out.1
          have hk7 := heap_set7 k0 (.int .i64 19) (.int .i64 p0) (.int .i64 p1) (.int .i64 p2) (.int .i64 p3) (.int .i64 p4) (.int .i64 p5)
          refine bodyPost_ret (v := .agg #[.int .i64 19, .int .i64 p0, .int .i64 p1, .int .i64 p2, .int .i64 p3, .int .i64 p4, .int .i64 p5]) ?_ rfl ⟨by rw [HR.out]; rfl, below_set7 HB.out.2.2 (Nat.le_refl _) _ _ _ _ _ _ _⟩
          generalize (((((((((wr.setCell ⟨w.heap.size + 1, 0, none⟩ (.int .i64 20)).setCell ⟨w.heap.size + 1, 0, none⟩ (.int .i64 19)).setCell ⟨w.heap.size, 0, none⟩ (.int .i64 19)).setCell ⟨w.heap.size, 1, none⟩ (.int .i64 p0)).setCell ⟨w.heap.size, 2, none⟩ (.int .i64 p1)).setCell ⟨w.heap.size, 3, none⟩ (.int .i64 p2)).setCell ⟨w.heap.size, 4, none⟩ (.int .i64 p3)).setCell ⟨w.heap.size, 5, none⟩ (.int .i64 p4)).setCell ⟨w.heap.size, 6, none⟩ (.int .i64 p5)) = w9 at hk7 ⊢
          have hce : ∀ j, w9.cell? ⟨w.heap.size, j, none⟩ = _ := fun j => Lib.cell_of_heap hk7 j
          simp [results, Tryd.results41, go_sem, hce]
        · rw [show cent p0 = 20 from if_neg h50] at HR
          go_wp2
          have k0 := HA.out.1
          have hk7 := heap_set7 k0 (.int .i64 20) (.int .i64 p0) (.int .i64 p1) (.int .i64 p2) (.int .i64 p3) (.int .i64 p4) (.int .i64 p5)
          refine bodyPost_ret (v := .agg #[.int .i64 20, .int .i64 p0, .int .i64 p1, .int .i64 p2, .int .i64 p3, .int .i64 p4, .int .i64 p5]) ?_ rfl ⟨by rw [HR.out]; rfl, below_set7 HA.out.2.2 (Nat.le_refl _) _ _ _ _ _ _ _⟩
          generalize ((((((((wr.setCell ⟨w.heap.size + 1, 0, none⟩ (.int .i64 20)).setCell ⟨w.heap.size, 0, none⟩ (.int .i64 20)).setCell ⟨w.heap.size, 1, none⟩ (.int .i64 p0)).setCell ⟨w.heap.size, 2, none⟩ (.int .i64 p1)).setCell ⟨w.heap.size, 3, none⟩ (.int .i64 p2)).setCell ⟨w.heap.size, 4, none⟩ (.int .i64 p3)).setCell ⟨w.heap.size, 5, none⟩ (.int .i64 p4)).setCell ⟨w.heap.size, 6, none⟩ (.int .i64 p5)) = w9 at hk7 ⊢
          have hce : ∀ j, w9.cell? ⟨w.heap.size, j, none⟩ = _ := fun j => Lib.cell_of_heap hk7 j
          simp [results, Tryd.results41, go_sem, hce]
      · have htb : (tag == 23) = false := by simpa using ht
        have hfl : fldsOf tag xs = [pr xs 0, pr xs 1, pr xs 2, pr xs 3, pr xs 4, pr xs 5, pr xs 6] := if_neg ht
        have e7 : fldK tag xs 7 = [pr xs 0, pr xs 1, pr xs 2, pr xs 3, pr xs 4, pr xs 5, pr xs 6] := by simp [fldK, fldAt, ht, List.range, List.range.loop]
        rw [e7] at hck7
        have HR := Lib.hid (HRS.out.symm.trans hfl)
        clear HRS
        obtain ⟨p0, hp0⟩ : ∃ p, pr xs 0 = p := ⟨_, rfl⟩
        obtain ⟨p1, hp1⟩ : ∃ p, pr xs 1 = p := ⟨_, rfl⟩
        obtain ⟨p2, hp2⟩ : ∃ p, pr xs 2 = p := ⟨_, rfl⟩
        obtain ⟨p3, hp3⟩ : ∃ p, pr xs 3 = p := ⟨_, rfl⟩
        obtain ⟨p4, hp4⟩ : ∃ p, pr xs 4 = p := ⟨_, rfl⟩
        obtain ⟨p5, hp5⟩ : ∃ p, pr xs 5 = p := ⟨_, rfl⟩
        obtain ⟨p6, hp6⟩ : ∃ p, pr xs 6 = p := ⟨_, rfl⟩
        rw [hp0, hp1, hp2, hp3, hp4, hp5, hp6] at hck7 HR
        clear hp0 hp1 hp2 hp3 hp4 hp5 hp6 e7 hfl fin hx ht
        have a0 := hck7.cell (k := 0) (by simp)
        have a1 := hck7.cell (k := 1) (by simp)
        have a2 := hck7.cell (k := 2) (by simp)
        have a3 := hck7.cell (k := 3) (by simp)
        have a4 := hck7.cell (k := 4) (by simp)
        have a5 := hck7.cell (k := 5) (by simp)
        have a6 := hck7.cell (k := 6) (by simp)
        simp only [List.getD_cons_zero, List.getD_cons_succ] at a0 a1 a2 a3 a4 a5 a6
        have HA := Lib.hid hck7
        clear hck7
        go_wp2
        have k0 := HA.out.1
        have hk7 := heap_set7 k0 (.int .i64 p0) (.int .i64 p1) (.int .i64 p2) (.int .i64 p3) (.int .i64 p4) (.int .i64 p5) (.int .i64 p6)
        refine bodyPost_ret (v := .agg #[.int .i64 p0, .int .i64 p1, .int .i64 p2, .int .i64 p3, .int .i64 p4, .int .i64 p5, .int .i64 p6]) ?_ rfl ⟨by rw [HR.out]; rfl, below_set7 HA.out.2.2 (Nat.le_refl _) _ _ _ _ _ _ _⟩
        generalize (((((((wr.setCell ⟨w.heap.size, 0, none⟩ (.int .i64 p0)).setCell ⟨w.heap.size, 1, none⟩ (.int .i64 p1)).setCell ⟨w.heap.size, 2, none⟩ (.int .i64 p2)).setCell ⟨w.heap.size, 3, none⟩ (.int .i64 p3)).setCell ⟨w.heap.size, 4, none⟩ (.int .i64 p4)).setCell ⟨w.heap.size, 5, none⟩ (.int .i64 p5)).setCell ⟨w.heap.size, 6, none⟩ (.int .i64 p6)) = w9 at hk7 ⊢
        have hce : ∀ j, w9.cell? ⟨w.heap.size, j, none⟩ = _ := fun j => Lib.cell_of_heap hk7 j
        simp [results, Tryd.results41, go_sem, hce]
end Go.Proofs.YtajiolcdjjkedaaDoor.txc
