/- The program's seqOf, of nodes. -/
import Derived.Test.YthcancakkkjpaaaGreatDoorRe
namespace Go.Proofs.YthcancakkkjpaaaGreatDoor.nmc
open Go.RowKit Go.Proofs.YthcancakkkjpaaaGreatDoor.tlvc Go.Proofs.YthcancakkkjpaaaGreatDoor.tlvd Go.Proofs.YthcancakkkjpaaaGreatDoor.ndc Go.Proofs.YthcancakkkjpaaaGreatDoor.txc Go.Proofs.YthcancakkkjpaaaGreatDoor.txm Go.Proofs.YthcancakkkjpaaaGreatDoor.intc Go.Proofs.YthcancakkkjpaaaGreatDoor.intm
set_option linter.unusedVariables false
set_option linter.unusedSimpArgs false

set_option maxRecDepth 100000 in
set_option maxHeartbeats 8000000 in
theorem seqOf_node (Q B : Nat → Prop) (F : Nd → Option Nd) (f : FuncId) (A : Option Addr) (len cap : Nat) (xs : List Nd) (w : World) (hQ : ∀ g, Q g → g < w.heap.size) (hl : xs.length = len) (hL : Lst ndE B w A xs) (hc : len ≤ cap) (hm : cap ≤ maxLen) (hlen : len ≤ 1000)
    (hen : ∀ args w, (callFunc f args).run Tryz.prog w = .ok (.enter f args) w)
    (hf : ∀ (x : Nd), x ∈ xs → ∀ (W : World), Below w.heap.size w W → ∀ c0 c1 c2 : Value, ndE.hold B W x [c0, c1, c2] → Calls Tryz.prog f #[.agg #[c0, c1, c2]] W (NPost (fun g => Q g ∨ W.heap.size ≤ g) W (F x))) :
    Calls Tryz.prog 33 #[.slice A len cap, .func (.func f) #[] #[]] w (NPost0 (fun g => Q g ∨ w.heap.size ≤ g) w ((seqF F xs).map (.mk 48 []))) := by
  have h9 : cap ≤ 9223372036854775807 := by unfold maxLen at hm; omega
  obtain ⟨R0, hR0⟩ : ∃ x, seqF F xs = x := ⟨_, rfl⟩
  rw [hR0]
  have hR1 : (seqF F (xs.drop 0)).map ([] ++ ·) = R0 := by rw [List.drop_zero, hR0]; cases R0 <;> simp
  have HR := Lib.hid hR1
  have HL := Lib.hid (And.intro hl (And.intro hL hQ))
  have HF := Lib.hid hf
  have hst : ∀ wx, (w.alloc (.cells #[.int .u8 0, .slice none 0 0, .slice none 0 0] 25)).alloc (.cells #[.int .u8 48, .slice none 0 0, .slice none 0 0] 25) = wx → SInv Q w [] (.slice none 0 0) wx := fun wx h => SInv.start h
  have HST := Lib.hid hst
  clear hl hL hQ hf hR0 hR1 hst hm
  go_enter Tryz.func33, Tryz.ntmps33
  go_wp2_with fail
  go_loopg [14] (len + 1) (fun gk s14 wx => ∃ (i : Nat) (kids : List Nd) (Av : Option Addr) (cv : Nat), s14 = .int .i64 i ∧ i ≤ len ∧ len - i < gk ∧ Hid (kids.length = i ∧ (seqF F (xs.drop i)).map (kids ++ ·) = R0 ∧ SInv Q w kids (.slice Av i cv) wx))
  case atStart => exact ⟨0, [], none, 0, rfl, by omega, by omega, Lib.hid ⟨rfl, HR.out, HST.out _ rfl⟩⟩
  case round =>
    obtain ⟨i, kids, Av, cv, rfl, hi, hgk, HI⟩ := hrel
    clear HR HST
    by_cases hlt : i < len
    · have hltz : (i : Int) < (len : Int) := by omega
      obtain ⟨gk', rfl⟩ : ∃ g', gk = g' + 1 := ⟨gk - 1, by omega⟩
      have HN := Lib.hid (And.intro (show i + 1 ≤ len from hlt) (show len - (i + 1) < gk' by omega))
      have hix : i < xs.length := by rw [HL.out.1]; exact hlt
      have hbw := HI.out.2.2.bel
      have hLr : Lst ndE B wr A xs := HL.out.2.1.below hbw
      obtain ⟨g, off, cs, rfl, hg, hcell, hold⟩ := hLr.at i hix
      obtain ⟨c0, c1, c2, rfl, hat⟩ := hold
      obtain ⟨tk, A0, l0, k0, K1, l1, k1, rfl, rfl, rfl⟩ := hat.shape
      have e0 := hcell 0 _ rfl
      have e1 := hcell 1 _ rfl
      have e2 := hcell 2 _ rfl
      rw [show ndE.sz = 3 from rfl] at e0 e1 e2
      rw [Nat.add_zero] at e0
      have hw1 : Below wr.heap.size wr (wr.alloc (.cells #[.int .u8 tk, .slice A0 l0 k0, .slice K1 l1 k1] 25)) := below_new _ _
      have hz1 := size_new wr (.cells #[.int .u8 tk, .slice A0 l0 k0, .slice K1 l1 k1] 25)
      have hold : ndE.hold B (wr.alloc (.cells #[.int .u8 tk, .slice A0 l0 k0, .slice K1 l1 k1] 25)) xs[i] [.int .u8 tk, .slice A0 l0 k0, .slice K1 l1 k1] := ndE.stays ⟨hw1.size, fun p _ hp => hw1.cell hp⟩ ⟨_, _, _, rfl, hat⟩
      clear hat
      have hcl := HF.out xs[i] (List.getElem_mem hix) (wr.alloc (.cells #[.int .u8 tk, .slice A0 l0 k0, .slice K1 l1 k1] 25)) (below_then hbw hw1 (Nat.le_refl _)) (.int .u8 tk) (.slice A0 l0 k0) (.slice K1 l1 k1) hold
      obtain ⟨r, hr⟩ : ∃ x, F xs[i] = x := ⟨_, rfl⟩
      rw [hr] at hcl
      have HC := Lib.hid hcl
      have HX := Lib.hid hr
      clear hcl hr hold hcell hLr hbw hgk
      cases r with
      | none =>
        go_wp2_with fail
        refine HC.out.mono ?_
        rintro e w2 ⟨hb2, t, Ak, la, ca, Kk, lk, ck, er, rfl, her⟩
        have hne : (er == 0) = false := by simpa using her
        have hI2 := HI.out.2.2.below (below_then (below_new wr (.cells #[.int .u8 tk, .slice A0 l0 k0, .slice K1 l1 k1] 25)) hb2 (Nat.le_refl _))
        have p0 : (w2.alloc (.cells #[.int .u8 t, .slice Ak la ca, .slice Kk lk ck] 25)).heap[w.heap.size]? = some (.cells #[.int .u8 0, .slice none 0 0, .slice none 0 0] 25) := by
          rw [heap_old_ _ _ (by have := hI2.low; omega)]; exact hI2.res
        obtain ⟨r0, r1, r2, hB⟩ := res3 (y0 := .int .u8 0) (y1 := .slice none 0 0) (y2 := .slice none 0 0) (Nat.le_refl _) (below_then hI2.bel (below_new _ _) (Nat.le_refl _)) p0
        have f0 := Lib.frozen_of_heap p0 0
        have f1 := Lib.frozen_of_heap p0 1
        have f2 := Lib.frozen_of_heap p0 2
        have s0 := (Lib.cell_of_heap p0 0).trans rfl
        have s1 := (Lib.cell_of_heap p0 1).trans rfl
        have s2 := (Lib.cell_of_heap p0 2).trans rfl
        have HE := Lib.hid hB
        have hR := seqF_step_none hix HI.out.2.1 HX.out
        subst hR
        clear hI2 hB hb2 p0 HC
        go_wp2_with fail
        refine bodyPost_ret (v := .tuple #[.agg #[.int .u8 0, .slice none 0 0, .slice none 0 0], .int .i64 91]) ?_ rfl ⟨HE.out, rfl⟩
        simp [results, Tryz.results33, go_sem, r0, r1, r2]
      | some n =>
        go_wp2_with fail
        refine HC.out.mono ?_
        rintro e w2 ⟨hb2, t, Ak, la, ca, Kk, lk, ck, er, rfl, rfl, hn⟩
        have hbx2 := below_then (below_new wr (.cells #[.int .u8 tk, .slice A0 l0 k0, .slice K1 l1 k1] 25)) hb2 (Nat.le_refl _)
        have hb3 : Below w2.heap.size w2 ((w2.alloc (.cells #[.int .u8 t, .slice Ak la ca, .slice Kk lk ck] 25)).alloc (.cells #[.int .u8 t, .slice Ak la ca, .slice Kk lk ck] 25)) := (below_new _ _).alloc (by simp) _
        obtain ⟨A', c', w4, hrun, hs4, hI4⟩ := HI.out.2.2.push HL.out.2.2 (below_then hbx2 hb3 (Nat.le_refl _)) (NdC.below hb3 _ _ _ _ (NdC.mono (fun g hg => hg.imp id (fun h => by rw [hz1] at h; omega)) _ _ _ _ hn)) (g1 := w2.heap.size + 1) (by have := hbx2.size; omega) (heap_is (by simp)) (by rw [HI.out.1]; omega)
        rw [HI.out.1] at hrun hI4
        have hI2 := HI.out.2.2.below hbx2
        have d2 : (w2.alloc (.cells #[.int .u8 t, .slice Ak la ca, .slice Kk lk ck] 25)).cell? ⟨w.heap.size + 1, 2, none⟩ = some (.slice Av i cv) := by
          rw [World.cell?_alloc_lt _ _ _ (by have := hI2.low; show w.heap.size + 1 < _; omega), Lib.cell_of_heap hI2.seq]; rfl
        have e2 := (Lib.cell_of_heap hs4 2).trans rfl
        have g2 := Lib.frozen_of_heap hs4 2
        have HI4 := Lib.hid (And.intro (show (kids ++ [n]).length = i + 1 by simp [HI.out.1]) (And.intro (seqF_step_some hix HI.out.2.1 HX.out) hI4))
        clear hbx2 hb3 hI2 hI4 hb2 hn HC hs4
        go_wp2_with (at_builtin; refine wpl_append rfl (.tmp 28) (.tmp 30) 23 rfl _ _ _ rfl rfl hrun ?_)
        clear hrun
        go_wp2
        go_roundg gk'
        case measure => omega
        case rel => exact ⟨i + 1, kids ++ [n], A', c', by go_num, HN.out.1, HN.out.2, HI4⟩
    · obtain rfl : len = i := by omega
      have hltz : ¬ (len : Int) < (len : Int) := by omega
      have hR := seqF_end (by rw [HL.out.1]; omega) HI.out.2.1
      subst hR
      obtain ⟨A2, c2, e2, hn⟩ := HI.out.2.2.done HL.out.2.2
      rw [HI.out.1] at e2 hn
      simp only [Value.slice.injEq] at e2
      obtain ⟨rfl, _, rfl⟩ := e2
      have p0 := HI.out.2.2.res
      have q0 := HI.out.2.2.seq
      obtain ⟨r0, r1, r2, hB⟩ := res3 (y0 := .int .u8 48) (y1 := .slice none 0 0) (y2 := .slice Av len cv) (Nat.le_refl _) HI.out.2.2.bel p0
      have hn2 := res3_nd (b := w.heap.size) (y0 := .int .u8 48) (y1 := .slice none 0 0) (y2 := .slice Av len cv) (fun g hg => by rcases hg with hg | hg; have := HL.out.2.2 g hg; omega; omega) hn
      have f0 := Lib.frozen_of_heap p0 0
      have f1 := Lib.frozen_of_heap p0 1
      have f2 := Lib.frozen_of_heap p0 2
      have s0 := (Lib.cell_of_heap p0 0).trans rfl
      have s1 := (Lib.cell_of_heap p0 1).trans rfl
      have s2 := (Lib.cell_of_heap p0 2).trans rfl
      have u0 := (Lib.cell_of_heap q0 0).trans rfl
      have u1 := (Lib.cell_of_heap q0 1).trans rfl
      have u2 := (Lib.cell_of_heap q0 2).trans rfl
      have HE := Lib.hid (And.intro hB (NdC.mono (B' := fun g => Q g ∨ w.heap.size ≤ g) (fun g hg => hg.imp id (fun h => by omega)) _ _ _ _ hn2))
      clear hB hn hn2 p0 q0 hgk
      go_wp2_with fail
      refine bodyPost_ret (v := .tuple #[.agg #[.int .u8 48, .slice none 0 0, .slice Av len cv], .int .i64 0]) ?_ rfl ⟨HE.out.1, _, _, _, _, _, _, _, rfl, HE.out.2⟩
      simp [results, Tryz.results33, go_sem, r0, r1, r2]
end Go.Proofs.YthcancakkkjpaaaGreatDoor.nmc
