/- The document's vault: its list in memory; Same, Find. -/
import Derived.Test.YtfmdmahlljbbmaaGreatDoorVf
import Derived.Test.YtfmdmahlljbbmaaGreatDoorTd
import Derived.Test.YtfmdmahlljbbmaaGreatDoorTc
import Derived.Lib.QuietBelow
import Derived.BigQuiet
namespace Go.Proofs.YtfmdmahlljbbmaaGreatDoor.vtc
open Go.RowKit Go.Proofs.YtfmdmahlljbbmaaGreatDoor.tlvc Go.Proofs.YtfmdmahlljbbmaaGreatDoor.tmc
set_option linter.unusedVariables false
set_option maxRecDepth 100000 in
/-- Are two terms alike: the document's. -/
theorem tsame_any (n l : Tm) (C1 C2 : Nat → Prop) (v u : Value) (w : World) (h : TmV C1 w n v) (k : TmV C2 w l u) : Calls Tryz.prog 42 #[v, u] w fun e w' => e = .returned (.bool (alikeB n l)) ∧ Below w.heap.size w w' := by
  obtain ⟨c0, c1, c2, c3, rfl, hc⟩ := h
  obtain ⟨e0, e1, e2, e3, rfl, he⟩ := k
  obtain ⟨oo, mm, A, la, ca, K, lk, ck, rfl, rfl, rfl, rfl⟩ := hc.shape
  obtain ⟨oo', mm', A', la', ca', K', lk', ck', rfl, rfl, rfl, rfl⟩ := he.shape
  obtain ⟨W0, hW0⟩ : ∃ y, (w.alloc (.cells #[.int .i64 oo, .int .i64 mm, .slice A la ca, .slice K lk ck] 57)).alloc (.cells #[.int .i64 oo', .int .i64 mm', .slice A' la' ca', .slice K' lk' ck'] 57) = y := ⟨_, rfl⟩
  have hb0 : Below w.heap.size w W0 := by rw [← hW0]; exact (below_new _ _).alloc (by simp) _
  have ho := rorder_any n l C1 C2 (.agg #[.int .i64 oo, .int .i64 mm, .slice A la ca, .slice K lk ck]) (.agg #[.int .i64 oo', .int .i64 mm', .slice A' la' ca', .slice K' lk' ck']) W0 ⟨_, _, _, _, rfl, TmC.below hb0 _ _ _ _ _ hc⟩ ⟨_, _, _, _, rfl, TmC.below hb0 _ _ _ _ _ he⟩
  unfold alikeB
  obtain ⟨R, hR⟩ : ∃ x, ordT n l = x := ⟨_, rfl⟩
  rw [hR] at ho ⊢
  have HO := Lib.hid ho
  have HB := Lib.hid hb0
  have HW := Lib.hid hW0
  clear ho hb0 hc he hW0 hR
  by_cases hz : R = 0
  · subst hz
    go_enter Tryz.func42, Tryz.ntmps42
    go_wp2_with fail
    rw [HW.out]
    refine HO.out.mono ?_
    rintro e w2 ⟨rfl, hb2⟩
    have hend := HB.out.trans (hb2.mono HB.out.size)
    clear HO HB hb2
    go_wp2
    go_ret
    exact ⟨rfl, hend⟩
  · have hzb : (R == 0) = false := by simpa using hz
    have hzd : decide (R = 0) = false := decide_eq_false hz
    rw [hzd]
    go_enter Tryz.func42, Tryz.ntmps42
    go_wp2_with fail
    rw [HW.out]
    refine HO.out.mono ?_
    rintro e w2 ⟨rfl, hb2⟩
    have hend := HB.out.trans (hb2.mono HB.out.size)
    clear HO HB hb2
    go_wp2
    go_ret
    exact ⟨rfl, hend⟩
/-- The blocks of the document's vault that are written. -/
def MutR (rb : Nat) (ob : Option Nat) (g : Nat) : Prop := g = rb ∨ ob = some g
/-- In the world w a vault of the document lies at rb; its terms' data lie in blocks of Q. -/
structure RVl (Q : Nat → Prop) (w : World) (rb : Nat) (ob : Option Nat) (L : List Tm) : Prop where
  mem : ∃ (A : Option Addr) (c : Nat) (cs : List Value), w.heap[rb]? = some (.cells #[.slice A L.length c] 51) ∧ w.ownsRow 0 57 4 (.slice A L.length c) L.length cs ∧ (Value.slice A 0 0).ownBlock = ob ∧ Quads Q w L cs
  apart : ob ≠ some rb
  free : ∀ g, Q g → ¬ MutR rb ob g
  len : L.length ≤ 100000
section
variable {Q : Nat → Prop} {w : World} {rb : Nat} {ob : Option Nat} {L : List Tm}
theorem RVl.lt (h : RVl Q w rb ob L) {g : Nat} (hg : MutR rb ob g) : g < w.heap.size := by
  obtain ⟨A, c, cs, h1, h2, h3, h4⟩ := h.mem
  rcases hg with rfl | hg
  · exact (Array.getElem?_eq_some_iff.1 h1).1
  · exact (h2.lt g ((own_le A _ _).trans (h3.trans hg))).2
theorem RVl.mono {Q' : Nat → Prop} (h : RVl Q w rb ob L) (hQ : ∀ g, Q g → Q' g) (hf : ∀ g, Q' g → ¬ MutR rb ob g) : RVl Q' w rb ob L := by
  obtain ⟨A, c, cs, h1, h2, h3, h4⟩ := h.mem
  exact ⟨⟨A, c, cs, h1, h2, h3, h4.mono hQ⟩, h.apart, hf, h.len⟩
/-- It stays while other blocks are written. -/
theorem RVl.off {S : Nat → Prop} {w' : World} (h : RVl Q w rb ob L) (k : Off S w w') (hS : ∀ g, g < w.heap.size → (Q g ∨ MutR rb ob g) → ¬ S g) : RVl Q w' rb ob L := by
  obtain ⟨A, c, cs, h1, h2, h3, h4⟩ := h.mem
  have keep : ∀ g, MutR rb ob g → w'.heap[g]? = w.heap[g]? := fun g hg => k.block g (h.lt hg) (hS g (h.lt hg) (.inr hg))
  exact ⟨⟨A, c, cs, (keep rb (.inl rfl)).trans h1, own_same h2 fun g hg => keep g (.inr (by rw [← h3, ← own_le A L.length c]; exact hg)), h3, h4.stays (k.stays fun g hl hg => hS g hl (.inl hg))⟩, h.apart, h.free, h.len⟩
theorem RVl.below {w' : World} (h : RVl Q w rb ob L) (hb : Below w.heap.size w w') : RVl Q w' rb ob L :=
  h.off (S := fun _ => False) (Off.of_below hb) (fun _ _ _ e => e)
/-- A term of it, where it lies. -/
theorem RVl.at (h : RVl Q w rb ob L) : ∃ A c, w.cell? ⟨rb, 0, none⟩ = some (.slice A L.length c) ∧ L.length ≤ c ∧ c ≤ 9223372036854775807 ∧ (Value.slice A 0 0).ownBlock = ob ∧
    ∀ j k, L[j]? = some k → ∃ g d0 d1 d2 d3, A = some ⟨g, 0, none⟩ ∧ w.cell? ⟨g, j * 4, none⟩ = some d0 ∧ w.cell? ⟨g, j * 4 + 1, none⟩ = some d1 ∧ w.cell? ⟨g, j * 4 + 2, none⟩ = some d2 ∧ w.cell? ⟨g, j * 4 + 3, none⟩ = some d3 ∧ TmC Q w k d0 d1 d2 d3 := by
  obtain ⟨A, c, cs, h1, h2, h3, h4⟩ := h.mem
  obtain ⟨A', c', e, g1, g2, g3⟩ := own4_shape h2
  cases e
  refine ⟨A, c, (Lib.cell_of_heap h1 _).trans rfl, g1, by unfold maxLen at g2; omega, h3, fun j k hj => ?_⟩
  have hjl := (List.getElem?_eq_some_iff.1 hj).1
  obtain ⟨g, rfl, _, hgl⟩ := g3 (by omega)
  have hk := (Quads.kids (g := g) (off := 0) h4 fun i u hu => by
    have hi := (List.getElem?_eq_some_iff.1 hu).1
    rw [Nat.zero_add, h2.cellAt i (by rw [← h2.1]; exact hi)]
    exact hu).at j hjl
  obtain ⟨d0, d1, d2, d3, e0, e1, e2, e3, hd⟩ := hk
  rw [Nat.zero_add] at e0 e1 e2 e3
  refine ⟨g, d0, d1, d2, d3, rfl, e0, e1, e2, e3, ?_⟩
  rwa [(List.getElem?_eq_some_iff.1 hj).2] at hd
end
theorem findV_first {L : List Tm} {t : Tm} {i : Nat} (h : L[i]? = some t) (hn : ∀ j, j < i → L[j]? ≠ some t) : findV t L = some i := by
  obtain ⟨k, hk⟩ := findV_mem (List.mem_of_getElem? h)
  obtain ⟨h1, h2⟩ := findV_some hk
  rcases Nat.lt_trichotomy i k with e | e | e
  · exact absurd h (h2 i e)
  · rw [hk, e]
  · exact absurd h1 (hn k e)
theorem findV_nowhere {L : List Tm} {t : Tm} (hn : ∀ j, j < L.length → L[j]? ≠ some t) : findV t L = none :=
  findV_none.2 fun h => by
    obtain ⟨i, hi⟩ := List.getElem?_of_mem h
    exact hn i (List.getElem?_eq_some_iff.1 hi).1 hi
set_option maxRecDepth 100000 in
set_option maxHeartbeats 8000000 in
theorem rfind_any (Q B : Nat → Prop) (rb : Nat) (ob : Option Nat) (L : List Tm) (t : Tm) (v : Value) (w : World) (hV : RVl Q w rb ob L) (hv : TmV B w t v) :
    Calls Tryz.prog 48 #[.pointer (some ⟨rb, 0, none⟩), v] w fun e w' => e = .returned (.tuple #[.int .i64 (numI t L), .bool (findV t L).isSome]) ∧ Below w.heap.size w w' := by
  obtain ⟨c0, c1, c2, c3, rfl, hc⟩ := hv
  obtain ⟨oo, mm, A, la, ca, K, n, ck, rfl, rfl, rfl, rfl⟩ := hc.shape
  have hb0 : Below w.heap.size w (w.alloc (.cells #[.int .i64 oo, .int .i64 mm, .slice A la ca, .slice K n ck] 57)) := below_new _ _
  obtain ⟨W0, hW0⟩ : ∃ x, w.alloc (.cells #[.int .i64 oo, .int .i64 mm, .slice A la ca, .slice K n ck] 57) = x := ⟨_, rfl⟩
  rw [hW0] at hb0
  have p0 : W0.heap[w.heap.size]? = some (.cells #[.int .i64 oo, .int .i64 mm, .slice A la ca, .slice K n ck] 57) := by rw [← hW0]; exact heap_new_ _ _
  have hz0 : w.heap.size < W0.heap.size := (Array.getElem?_eq_some_iff.1 p0).1
  have hbox : ∀ W, Below W0.heap.size W0 W → W.cell? ⟨w.heap.size, 0, none⟩ = some (.int .i64 oo) ∧ W.cell? ⟨w.heap.size, 1, none⟩ = some (.int .i64 mm) ∧ W.cell? ⟨w.heap.size, 2, none⟩ = some (.slice A la ca) ∧ W.cell? ⟨w.heap.size, 3, none⟩ = some (.slice K n ck) := fun W hW => by
    have h := (hW.block w.heap.size (by omega)).trans p0
    exact ⟨(Lib.cell_of_heap h _).trans rfl, (Lib.cell_of_heap h _).trans rfl, (Lib.cell_of_heap h _).trans rfl, (Lib.cell_of_heap h _).trans rfl⟩
  have hV0 := hV.below hb0
  have hte : ∀ W, Below W0.heap.size W0 W → TmV B W t (.agg #[.int .i64 oo, .int .i64 mm, .slice A la ca, .slice K n ck]) := fun W hW => ⟨_, _, _, _, rfl, TmC.below (hb0.trans (hW.mono hb0.size)) _ _ _ _ _ hc⟩
  have hlen := hV.len
  have HV0 := Lib.hid hV0
  have HB0 := Lib.hid hb0
  have HBX := Lib.hid hbox
  have HTE := Lib.hid hte
  obtain ⟨l, hl⟩ : ∃ x, L.length = x := ⟨_, rfl⟩
  rw [hl] at hlen
  have HL := Lib.hid hl
  obtain ⟨is, his⟩ : ∃ x, (findV t L).isSome = x := ⟨_, rfl⟩
  obtain ⟨NI, hNI⟩ : ∃ x, numI t L = x := ⟨_, rfl⟩
  rw [his, hNI]
  have HRES := Lib.hid (And.intro his hNI)
  have HW0 := Lib.hid hW0
  clear his hNI hV hc hb0 p0 hz0 hbox hV0 hte hl hW0
  go_enter Tryz.func48, Tryz.ntmps48
  go_wp2_with fail
  rw [HW0.out]
  go_loopg [6] (l + 1) (fun gk s6 wx => ∃ (i : Nat), s6 = .int .i64 i ∧ i ≤ l ∧ l - i < gk ∧ Hid (Below W0.heap.size W0 wx) ∧ Hid (∀ j, j < i → L[j]? ≠ some t))
  case atStart => exact ⟨0, rfl, by omega, by omega, Lib.hid (Below.refl _ _), Lib.hid fun j hj => by omega⟩
  case round =>
    obtain ⟨i, rfl, hi, hgk, HW, HNO⟩ := hrel
    obtain ⟨A9, c9, x0, x2, x3, _, x4⟩ := (HV0.out.below HW.out).at
    rw [HL.out] at x0 x2
    by_cases hlt : i < l
    · have hltz : (i : Int) < (l : Int) := by omega
      obtain ⟨gk', rfl⟩ : ∃ g', gk = g' + 1 := ⟨gk - 1, by omega⟩
      have HN := Lib.hid (And.intro (show i + 1 ≤ l from hlt) (show l - (i + 1) < gk' by omega))
      obtain ⟨k, hk⟩ : ∃ k, L[i]? = some k := ⟨_, List.getElem?_eq_getElem (by rw [HL.out]; exact hlt)⟩
      obtain ⟨g9, d0, d1, d2, d3, rfl, e0, e1, e2, e3, hd⟩ := x4 i k hk
      obtain ⟨to, tm, tA, tla, tca, tK, tlk, tck, q0, q1, q2, q3⟩ := hd.shape
      subst q0 q1 q2 q3
      have hsm := fun W (hW : Below wr.heap.size wr W) => tsame_any k t Q B (.agg #[.int .i64 to, .int .i64 tm, .slice tA tla tca, .slice tK tlk tck]) (.agg #[.int .i64 oo, .int .i64 mm, .slice A la ca, .slice K n ck]) W ⟨_, _, _, _, rfl, TmC.below hW _ _ _ _ _ hd⟩ (HTE.out W (HW.out.trans (hW.mono HW.out.size)))
      have hcell := fun (q : Nat) (os : Array Obj) => HBX.out (Sort.grow (redrawn wr q) os) (HW.out.trans ((below_regrown wr q os).mono HW.out.size))
      have g0 := fun q os => (hcell q os).1
      have g1 := fun q os => (hcell q os).2.1
      have g2 := fun q os => (hcell q os).2.2.1
      have g3 := fun q os => (hcell q os).2.2.2
      have y0 := fun q os => cell_regrown x0 q os
      have f0 := fun q os => cell_regrown e0 q os
      have f1 := fun q os => cell_regrown e1 q os
      have f2 := fun q os => cell_regrown e2 q os
      have f3 := fun q os => cell_regrown e3 q os
      have HSM := Lib.hid hsm
      have HK := Lib.hid hk
      clear hsm hcell x4 hd e0 e1 e2 e3 hk hgk
      cases hal : alikeB k t with
      | true =>
        have hfin : is = true ∧ NI = (i : Int) := by
          have e := findV_first (t := t) (by rw [HK.out, alike_iff.1 hal]) HNO.out
          have h1 := HRES.out.1
          have h2 := HRES.out.2
          rw [e] at h1
          rw [numI_some e] at h2
          exact ⟨h1.symm, h2.symm⟩
        rw [hal] at HSM
        obtain ⟨rfl, rfl⟩ := hfin
        clear hal HRES
        go_wp2_with fail
        refine wp_region_quiet_below (by kernel_rfl) (by kernel_rfl) ?_
        repeat (go_big_quiet_step ((go_at_call 42; refine Calls.regrown_of (HSM.out _ (below_regrown _ _ _)))))
        refine wpQuiet_nil ?_
        intro _ hw'
        obtain ⟨⟨nq, osq⟩, hw''⟩ := hw'
        subst hw''
        have HE := Lib.hid (HB0.out.trans ((HW.out.trans ((below_regrown wr nq osq).mono HW.out.size)).mono HB0.out.size))
        clear x0 g0 g1 g2 g3 y0 f0 f1 f2 f3 HSM
        go_wp2
        go_ret2
        exact ⟨rfl, HE.out⟩
      | false =>
        have hno : ∀ j, j < i + 1 → L[j]? ≠ some t := fun j hj e => by
          rcases Nat.lt_or_ge j i with h | h
          · exact HNO.out j h e
          · obtain rfl : j = i := by omega
            rw [HK.out] at e
            have := alike_iff.2 (Option.some.inj e)
            rw [hal] at this
            cases this
        rw [hal] at HSM
        have HNO2 := Lib.hid hno
        clear hal hno HNO
        go_wp2_with fail
        refine wp_region_quiet_below (by kernel_rfl) (by kernel_rfl) ?_
        repeat (go_big_quiet_step ((go_at_call 42; refine Calls.regrown_of (HSM.out _ (below_regrown _ _ _)))))
        refine wpQuiet_nil ?_
        intro _ hw'
        obtain ⟨⟨nq, osq⟩, hw''⟩ := hw'
        subst hw''
        have HE := Lib.hid (HW.out.trans ((below_regrown wr nq osq).mono HW.out.size))
        clear x0 g0 g1 g2 g3 y0 f0 f1 f2 f3 HSM
        go_wp2
        go_roundg gk'
        case measure => omega
        case rel => exact ⟨i + 1, by go_num, HN.out.1, HN.out.2, HE, HNO2⟩
    · have hltz : ¬ (i : Int) < (l : Int) := by omega
      have hfin : is = false ∧ NI = -1 := by
        have e := findV_nowhere (t := t) (L := L) fun j hj => HNO.out j (by rw [HL.out] at hj; omega)
        have h1 := HRES.out.1
        have h2 := HRES.out.2
        rw [e] at h1
        rw [numI_none e] at h2
        exact ⟨h1.symm, h2.symm⟩
      obtain ⟨rfl, rfl⟩ := hfin
      have HE := Lib.hid (HB0.out.trans (HW.out.mono HB0.out.size))
      clear HRES x4
      go_wp2
      go_ret2
      exact ⟨rfl, HE.out⟩
end Go.Proofs.YtfmdmahlljbbmaaGreatDoor.vtc
