/- The document's vault: its list in memory; Same, Find. The document's vault: put, Intern, Term. The document's vault: Intern, Term. -/
import Derived.Test.YtlhogjigdmpokaaGreatDoorUc
import Derived.Test.YtlhogjigdmpokaaGreatDoorTd
import Derived.Test.YtlhogjigdmpokaaGreatDoorTc
import Derived.Lib.QuietBelow
import Derived.BigQuiet
import Derived.Test.YtlhogjigdmpokaaGreatDoorTe
import Derived.Test.YtlhogjigdmpokaaGreatDoorTi
import Derived.Test.YtlhogjigdmpokaaGreatDoorUd
namespace Go.Proofs.YtlhogjigdmpokaaGreatDoor.vtc
open Go.RowKit Go.Proofs.YtlhogjigdmpokaaGreatDoor.tlvc Go.Proofs.YtlhogjigdmpokaaGreatDoor.tmc
set_option linter.unusedVariables false
set_option maxRecDepth 100000 in
/-- Are two terms alike: the document's. -/
theorem tsame_any (n l : Tm) (C1 C2 : Nat → Prop) (v u : Value) (w : World) (h : TmV C1 w n v) (k : TmV C2 w l u) : Calls Tryz.prog 74 #[v, u] w fun e w' => e = .returned (.bool (alikeB n l)) ∧ Below w.heap.size w w' := by
  obtain ⟨c0, c1, c2, c3, rfl, hc⟩ := h
  obtain ⟨e0, e1, e2, e3, rfl, he⟩ := k
  obtain ⟨oo, mm, A, la, ca, K, lk, ck, rfl, rfl, rfl, rfl⟩ := hc.shape
  obtain ⟨oo', mm', A', la', ca', K', lk', ck', rfl, rfl, rfl, rfl⟩ := he.shape
  obtain ⟨W0, hW0⟩ : ∃ y, (w.alloc (.cells #[.int .i64 oo, .int .i64 mm, .slice A la ca, .slice K lk ck] 43)).alloc (.cells #[.int .i64 oo', .int .i64 mm', .slice A' la' ca', .slice K' lk' ck'] 43) = y := ⟨_, rfl⟩
  have hb0 : Below w.heap.size w W0 := by rw [← hW0]; exact (below_new _ _).alloc (by simp) _
  have ho := rorder_any n l C1 C2 (.agg #[.int .i64 oo, .int .i64 mm, .slice A la ca, .slice K lk ck]) (.agg #[.int .i64 oo', .int .i64 mm', .slice A' la' ca', .slice K' lk' ck']) W0 ⟨_, _, _, _, rfl, TmC.below hb0 _ _ _ _ _ hc⟩ ⟨_, _, _, _, rfl, TmC.below hb0 _ _ _ _ _ he⟩
  unfold alikeB
  obtain ⟨R, hR⟩ : ∃ x, ordT n l = x := ⟨_, rfl⟩
  rw [hR] at ho ⊢
  have HO := Lib.hid ho
  have HB := Lib.hid hb0
  have HW := Lib.hid hW0
  clear ho hb0 hc he hW0 hR
  by_cases hz : R = 0
  · subst hz
    go_enter Tryz.func74, Tryz.ntmps74
    go_wp2_with fail
    rw [HW.out]
    refine HO.out.mono ?_
    rintro e w2 ⟨rfl, hb2⟩
    have hend := HB.out.trans (hb2.mono HB.out.size)
    clear HO HB hb2
    go_wp2
    go_ret
    exact ⟨rfl, hend⟩
  · have hzb : (R == 0) = false := by simpa using hz
    have hzd : decide (R = 0) = false := decide_eq_false hz
    rw [hzd]
    go_enter Tryz.func74, Tryz.ntmps74
    go_wp2_with fail
    rw [HW.out]
    refine HO.out.mono ?_
    rintro e w2 ⟨rfl, hb2⟩
    have hend := HB.out.trans (hb2.mono HB.out.size)
    clear HO HB hb2
    go_wp2
    go_ret
    exact ⟨rfl, hend⟩
/-- The blocks of the document's vault that are written. -/
def MutR (rb : Nat) (ob : Option Nat) (g : Nat) : Prop := g = rb ∨ ob = some g
/-- In the world w a vault of the document lies at rb; its terms' data lie in blocks of Q. -/
structure RVl (Q : Nat → Prop) (w : World) (rb : Nat) (ob : Option Nat) (L : List Tm) : Prop where
  mem : ∃ (A : Option Addr) (c : Nat) (cs : List Value), w.heap[rb]? = some (.cells #[.slice A L.length c] 60) ∧ w.ownsRow 0 43 4 (.slice A L.length c) L.length cs ∧ (Value.slice A 0 0).ownBlock = ob ∧ Quads Q w L cs
  apart : ob ≠ some rb
  free : ∀ g, Q g → ¬ MutR rb ob g
  len : L.length ≤ 100000
section
variable {Q : Nat → Prop} {w : World} {rb : Nat} {ob : Option Nat} {L : List Tm}
theorem RVl.lt (h : RVl Q w rb ob L) {g : Nat} (hg : MutR rb ob g) : g < w.heap.size := by
  obtain ⟨A, c, cs, h1, h2, h3, h4⟩ := h.mem
  rcases hg with rfl | hg
  · exact (Array.getElem?_eq_some_iff.1 h1).1
  · exact (h2.lt g ((own_le A _ _).trans (h3.trans hg))).2
theorem RVl.mono {Q' : Nat → Prop} (h : RVl Q w rb ob L) (hQ : ∀ g, Q g → Q' g) (hf : ∀ g, Q' g → ¬ MutR rb ob g) : RVl Q' w rb ob L := by
  obtain ⟨A, c, cs, h1, h2, h3, h4⟩ := h.mem
  exact ⟨⟨A, c, cs, h1, h2, h3, h4.mono hQ⟩, h.apart, hf, h.len⟩
/-- It stays while other blocks are written. -/
theorem RVl.off {S : Nat → Prop} {w' : World} (h : RVl Q w rb ob L) (k : Off S w w') (hS : ∀ g, g < w.heap.size → (Q g ∨ MutR rb ob g) → ¬ S g) : RVl Q w' rb ob L := by
  obtain ⟨A, c, cs, h1, h2, h3, h4⟩ := h.mem
  have keep : ∀ g, MutR rb ob g → w'.heap[g]? = w.heap[g]? := fun g hg => k.block g (h.lt hg) (hS g (h.lt hg) (.inr hg))
  exact ⟨⟨A, c, cs, (keep rb (.inl rfl)).trans h1, own_same h2 fun g hg => keep g (.inr (by rw [← h3, ← own_le A L.length c]; exact hg)), h3, h4.stays (k.stays fun g hl hg => hS g hl (.inl hg))⟩, h.apart, h.free, h.len⟩
theorem RVl.below {w' : World} (h : RVl Q w rb ob L) (hb : Below w.heap.size w w') : RVl Q w' rb ob L :=
  h.off (S := fun _ => False) (Off.of_below hb) (fun _ _ _ e => e)
/-- A term of it, where it lies. -/
theorem RVl.at (h : RVl Q w rb ob L) : ∃ A c, w.cell? ⟨rb, 0, none⟩ = some (.slice A L.length c) ∧ L.length ≤ c ∧ c ≤ 9223372036854775807 ∧ (Value.slice A 0 0).ownBlock = ob ∧
    ∀ j k, L[j]? = some k → ∃ g d0 d1 d2 d3, A = some ⟨g, 0, none⟩ ∧ w.cell? ⟨g, j * 4, none⟩ = some d0 ∧ w.cell? ⟨g, j * 4 + 1, none⟩ = some d1 ∧ w.cell? ⟨g, j * 4 + 2, none⟩ = some d2 ∧ w.cell? ⟨g, j * 4 + 3, none⟩ = some d3 ∧ TmC Q w k d0 d1 d2 d3 := by
  obtain ⟨A, c, cs, h1, h2, h3, h4⟩ := h.mem
  obtain ⟨A', c', e, g1, g2, g3⟩ := own4_shape h2
  cases e
  refine ⟨A, c, (Lib.cell_of_heap h1 _).trans rfl, g1, by unfold maxLen at g2; omega, h3, fun j k hj => ?_⟩
  have hjl := (List.getElem?_eq_some_iff.1 hj).1
  obtain ⟨g, rfl, _, hgl⟩ := g3 (by omega)
  have hk := (Quads.kids (g := g) (off := 0) h4 fun i u hu => by
    have hi := (List.getElem?_eq_some_iff.1 hu).1
    rw [Nat.zero_add, h2.cellAt i (by rw [← h2.1]; exact hi)]
    exact hu).at j hjl
  obtain ⟨d0, d1, d2, d3, e0, e1, e2, e3, hd⟩ := hk
  rw [Nat.zero_add] at e0 e1 e2 e3
  refine ⟨g, d0, d1, d2, d3, rfl, e0, e1, e2, e3, ?_⟩
  rwa [(List.getElem?_eq_some_iff.1 hj).2] at hd
end
theorem findV_first {L : List Tm} {t : Tm} {i : Nat} (h : L[i]? = some t) (hn : ∀ j, j < i → L[j]? ≠ some t) : findV t L = some i := by
  obtain ⟨k, hk⟩ := findV_mem (List.mem_of_getElem? h)
  obtain ⟨h1, h2⟩ := findV_some hk
  rcases Nat.lt_trichotomy i k with e | e | e
  · exact absurd h (h2 i e)
  · rw [hk, e]
  · exact absurd h1 (hn k e)
theorem findV_nowhere {L : List Tm} {t : Tm} (hn : ∀ j, j < L.length → L[j]? ≠ some t) : findV t L = none :=
  findV_none.2 fun h => by
    obtain ⟨i, hi⟩ := List.getElem?_of_mem h
    exact hn i (List.getElem?_eq_some_iff.1 hi).1 hi
set_option maxRecDepth 100000 in
set_option maxHeartbeats 8000000 in
theorem rfind_any (Q B : Nat → Prop) (rb : Nat) (ob : Option Nat) (L : List Tm) (t : Tm) (v : Value) (w : World) (hV : RVl Q w rb ob L) (hv : TmV B w t v) :
    Calls Tryz.prog 48 #[.pointer (some ⟨rb, 0, none⟩), v] w fun e w' => e = .returned (.tuple #[.int .i64 (numI t L), .bool (findV t L).isSome]) ∧ Below w.heap.size w w' := by
  obtain ⟨c0, c1, c2, c3, rfl, hc⟩ := hv
  obtain ⟨oo, mm, A, la, ca, K, n, ck, rfl, rfl, rfl, rfl⟩ := hc.shape
  have hb0 : Below w.heap.size w (w.alloc (.cells #[.int .i64 oo, .int .i64 mm, .slice A la ca, .slice K n ck] 43)) := below_new _ _
  obtain ⟨W0, hW0⟩ : ∃ x, w.alloc (.cells #[.int .i64 oo, .int .i64 mm, .slice A la ca, .slice K n ck] 43) = x := ⟨_, rfl⟩
  rw [hW0] at hb0
  have p0 : W0.heap[w.heap.size]? = some (.cells #[.int .i64 oo, .int .i64 mm, .slice A la ca, .slice K n ck] 43) := by rw [← hW0]; exact heap_new_ _ _
  have hz0 : w.heap.size < W0.heap.size := (Array.getElem?_eq_some_iff.1 p0).1
  have hbox : ∀ W, Below W0.heap.size W0 W → W.cell? ⟨w.heap.size, 0, none⟩ = some (.int .i64 oo) ∧ W.cell? ⟨w.heap.size, 1, none⟩ = some (.int .i64 mm) ∧ W.cell? ⟨w.heap.size, 2, none⟩ = some (.slice A la ca) ∧ W.cell? ⟨w.heap.size, 3, none⟩ = some (.slice K n ck) := fun W hW => by
    have h := (hW.block w.heap.size (by omega)).trans p0
    exact ⟨(Lib.cell_of_heap h _).trans rfl, (Lib.cell_of_heap h _).trans rfl, (Lib.cell_of_heap h _).trans rfl, (Lib.cell_of_heap h _).trans rfl⟩
  have hV0 := hV.below hb0
  have hte : ∀ W, Below W0.heap.size W0 W → TmV B W t (.agg #[.int .i64 oo, .int .i64 mm, .slice A la ca, .slice K n ck]) := fun W hW => ⟨_, _, _, _, rfl, TmC.below (hb0.trans (hW.mono hb0.size)) _ _ _ _ _ hc⟩
  have hlen := hV.len
  have HV0 := Lib.hid hV0
  have HB0 := Lib.hid hb0
  have HBX := Lib.hid hbox
  have HTE := Lib.hid hte
  obtain ⟨l, hl⟩ : ∃ x, L.length = x := ⟨_, rfl⟩
  rw [hl] at hlen
  have HL := Lib.hid hl
  obtain ⟨is, his⟩ : ∃ x, (findV t L).isSome = x := ⟨_, rfl⟩
  obtain ⟨NI, hNI⟩ : ∃ x, numI t L = x := ⟨_, rfl⟩
  rw [his, hNI]
  have HRES := Lib.hid (And.intro his hNI)
  have HW0 := Lib.hid hW0
  clear his hNI hV hc hb0 p0 hz0 hbox hV0 hte hl hW0
  go_enter Tryz.func48, Tryz.ntmps48
  go_wp2_with fail
  rw [HW0.out]
  go_loopg [6] (l + 1) (fun gk s6 wx => ∃ (i : Nat), s6 = .int .i64 i ∧ i ≤ l ∧ l - i < gk ∧ Hid (Below W0.heap.size W0 wx) ∧ Hid (∀ j, j < i → L[j]? ≠ some t))
  case atStart => exact ⟨0, rfl, by omega, by omega, Lib.hid (Below.refl _ _), Lib.hid fun j hj => by omega⟩
  case round =>
    obtain ⟨i, rfl, hi, hgk, HW, HNO⟩ := hrel
    obtain ⟨A9, c9, x0, x2, x3, _, x4⟩ := (HV0.out.below HW.out).at
    rw [HL.out] at x0 x2
    by_cases hlt : i < l
    · have hltz : (i : Int) < (l : Int) := by omega
      obtain ⟨gk', rfl⟩ : ∃ g', gk = g' + 1 := ⟨gk - 1, by omega⟩
      have HN := Lib.hid (And.intro (show i + 1 ≤ l from hlt) (show l - (i + 1) < gk' by omega))
      obtain ⟨k, hk⟩ : ∃ k, L[i]? = some k := ⟨_, List.getElem?_eq_getElem (by rw [HL.out]; exact hlt)⟩
      obtain ⟨g9, d0, d1, d2, d3, rfl, e0, e1, e2, e3, hd⟩ := x4 i k hk
      obtain ⟨to, tm, tA, tla, tca, tK, tlk, tck, q0, q1, q2, q3⟩ := hd.shape
      subst q0 q1 q2 q3
      have hsm := fun W (hW : Below wr.heap.size wr W) => tsame_any k t Q B (.agg #[.int .i64 to, .int .i64 tm, .slice tA tla tca, .slice tK tlk tck]) (.agg #[.int .i64 oo, .int .i64 mm, .slice A la ca, .slice K n ck]) W ⟨_, _, _, _, rfl, TmC.below hW _ _ _ _ _ hd⟩ (HTE.out W (HW.out.trans (hW.mono HW.out.size)))
      have hcell := fun (q : Nat) (os : Array Obj) => HBX.out (Sort.grow (redrawn wr q) os) (HW.out.trans ((below_regrown wr q os).mono HW.out.size))
      have g0 := fun q os => (hcell q os).1
      have g1 := fun q os => (hcell q os).2.1
      have g2 := fun q os => (hcell q os).2.2.1
      have g3 := fun q os => (hcell q os).2.2.2
      have y0 := fun q os => cell_regrown x0 q os
      have f0 := fun q os => cell_regrown e0 q os
      have f1 := fun q os => cell_regrown e1 q os
      have f2 := fun q os => cell_regrown e2 q os
      have f3 := fun q os => cell_regrown e3 q os
      have HSM := Lib.hid hsm
      have HK := Lib.hid hk
      clear hsm hcell x4 hd e0 e1 e2 e3 hk hgk
      cases hal : alikeB k t with
      | true =>
        have hfin : is = true ∧ NI = (i : Int) := by
          have e := findV_first (t := t) (by rw [HK.out, alike_iff.1 hal]) HNO.out
          have h1 := HRES.out.1
          have h2 := HRES.out.2
          rw [e] at h1
          rw [numI_some e] at h2
          exact ⟨h1.symm, h2.symm⟩
        rw [hal] at HSM
        obtain ⟨rfl, rfl⟩ := hfin
        clear hal HRES
        go_wp2_with fail
        refine wp_region_quiet_below (by kernel_rfl) (by kernel_rfl) ?_
        repeat (go_big_quiet_step ((go_at_call 74; refine Calls.regrown_of (HSM.out _ (below_regrown _ _ _)))))
        refine wpQuiet_nil ?_
        intro _ hw'
        obtain ⟨⟨nq, osq⟩, hw''⟩ := hw'
        subst hw''
        have HE := Lib.hid (HB0.out.trans ((HW.out.trans ((below_regrown wr nq osq).mono HW.out.size)).mono HB0.out.size))
        clear x0 g0 g1 g2 g3 y0 f0 f1 f2 f3 HSM
        go_wp2
        go_ret2
        exact ⟨rfl, HE.out⟩
      | false =>
        have hno : ∀ j, j < i + 1 → L[j]? ≠ some t := fun j hj e => by
          rcases Nat.lt_or_ge j i with h | h
          · exact HNO.out j h e
          · obtain rfl : j = i := by omega
            rw [HK.out] at e
            have := alike_iff.2 (Option.some.inj e)
            rw [hal] at this
            cases this
        rw [hal] at HSM
        have HNO2 := Lib.hid hno
        clear hal hno HNO
        go_wp2_with fail
        refine wp_region_quiet_below (by kernel_rfl) (by kernel_rfl) ?_
        repeat (go_big_quiet_step ((go_at_call 74; refine Calls.regrown_of (HSM.out _ (below_regrown _ _ _)))))
        refine wpQuiet_nil ?_
        intro _ hw'
        obtain ⟨⟨nq, osq⟩, hw''⟩ := hw'
        subst hw''
        have HE := Lib.hid (HW.out.trans ((below_regrown wr nq osq).mono HW.out.size))
        clear x0 g0 g1 g2 g3 y0 f0 f1 f2 f3 HSM
        go_wp2
        go_roundg gk'
        case measure => omega
        case rel => exact ⟨i + 1, by go_num, HN.out.1, HN.out.2, HE, HNO2⟩
    · have hltz : ¬ (i : Int) < (l : Int) := by omega
      have hfin : is = false ∧ NI = -1 := by
        have e := findV_nowhere (t := t) (L := L) fun j hj => HNO.out j (by rw [HL.out] at hj; omega)
        have h1 := HRES.out.1
        have h2 := HRES.out.2
        rw [e] at h1
        rw [numI_none e] at h2
        exact ⟨h1.symm, h2.symm⟩
      obtain ⟨rfl, rfl⟩ := hfin
      have HE := Lib.hid (HB0.out.trans (HW.out.mono HB0.out.size))
      clear HRES x4
      go_wp2
      go_ret2
      exact ⟨rfl, HE.out⟩
end Go.Proofs.YtlhogjigdmpokaaGreatDoor.vtc
namespace Go.Proofs.YtlhogjigdmpokaaGreatDoor.vtc
open Go.RowKit Go.Proofs.YtlhogjigdmpokaaGreatDoor.tlvc Go.Proofs.YtlhogjigdmpokaaGreatDoor.tmc
set_option linter.unusedVariables false
/-- One term more in the document's list. -/
theorem RVl.last {Q : Nat → Prop} {w : World} {rb : Nat} {ob : Option Nat} {L : List Tm} (h : RVl Q w rb ob L) {t : Tm} {c0 c1 c2 c3 : Value} (ht : TmC Q w t c0 c1 c2 c3) (hl : L.length + 1 ≤ 100000) (hQ : ∀ g, Q g → g < w.heap.size) (bx : Nat) (hbx : w.heap[bx]? = some (.cells #[c0, c1, c2, c3] 43)) (hbm : ¬ MutR rb ob bx) :
    ∃ A c g10 c10 w5, (w.cell? ⟨rb, 0, none⟩ = some (.slice A L.length c) ∧ (w.alloc (.cells #[.int .i64 0, .int .i64 0, .slice none 0 0, .slice none 0 0] 43)).cell? ⟨rb, 0, none⟩ = some (.slice A L.length c)) ∧ (L.length ≤ c ∧ c ≤ 9223372036854775807) ∧
      (Builtin.append_ #[22, 22] 22 #[.slice A L.length c, .slice (some ⟨w.heap.size, 0, none⟩) 1 1]).run Tryz.prog (w.alloc (.cells #[.int .i64 0, .int .i64 0, .slice none 0 0, .slice none 0 0] 43)).drew = .ok (.slice (some ⟨g10, 0, none⟩) (L.length + 1) c10) w5 ∧ (L.length + 1 ≤ c10 ∧ c10 ≤ 9223372036854775807) ∧
      (∀ W : World, (W = w ∨ W = w.alloc (.cells #[.int .i64 0, .int .i64 0, .slice none 0 0, .slice none 0 0] 43) ∨ W = w5) → W.cell? ⟨bx, 0, none⟩ = some c0 ∧ W.cell? ⟨bx, 1, none⟩ = some c1 ∧ W.cell? ⟨bx, 2, none⟩ = some c2 ∧ W.cell? ⟨bx, 3, none⟩ = some c3) ∧
      ((∀ j, w5.frozen? ⟨g10, j, none⟩ = false) ∧ w5.cell? ⟨g10, L.length * 4, none⟩ = some (.int .i64 0) ∧ w5.cell? ⟨g10, L.length * 4 + 1, none⟩ = some (.int .i64 0) ∧ w5.cell? ⟨g10, L.length * 4 + 2, none⟩ = some (.slice none 0 0) ∧ w5.cell? ⟨g10, L.length * 4 + 3, none⟩ = some (.slice none 0 0)) ∧
      (g10 ≠ rb ∧ w5.frozen? ⟨rb, 0, none⟩ = false ∧ w5.cell? ⟨rb, 0, none⟩ = some (.slice A L.length c)) ∧
      ((set4 w5 g10 (L.length * 4) c0 c1 c2 c3).setCell ⟨rb, 0, none⟩ (.slice (some ⟨g10, 0, none⟩) (L.length + 1) c10)).cell? ⟨rb, 0, none⟩ = some (.slice (some ⟨g10, 0, none⟩) (L.length + 1) c10) ∧
      RVl Q ((set4 w5 g10 (L.length * 4) c0 c1 c2 c3).setCell ⟨rb, 0, none⟩ (.slice (some ⟨g10, 0, none⟩) (L.length + 1) c10)) rb (some g10) (L ++ [t]) ∧ (some g10 = ob ∨ w.heap.size ≤ g10) ∧
      Off (MutR rb ob) w ((set4 w5 g10 (L.length * 4) c0 c1 c2 c3).setCell ⟨rb, 0, none⟩ (.slice (some ⟨g10, 0, none⟩) (L.length + 1) c10)) := by
  obtain ⟨A, c, cs, m1, m2, m3, m4⟩ := h.mem
  obtain ⟨A', c', e, k1, k2, _⟩ := own4_shape m2
  cases e
  have hcl : cs.length = L.length * 4 := Quads.len m4
  have hrl : rb < w.heap.size := h.lt (.inl rfl)
  have hbl := (Array.getElem?_eq_some_iff.1 hbx).1
  obtain ⟨Z, hZ⟩ : ∃ x, Obj.cells #[.int .i64 0, .int .i64 0, .slice none 0 0, .slice none 0 0] 43 = x := ⟨_, rfl⟩
  have hal : Below w.heap.size w (w.alloc Z).drew := (below_new _ _).drew
  have hq : (w.alloc Z).drew.heap[w.heap.size]? = some Z := heap_new_ _ _
  have hqz : w.heap.size < (w.alloc Z).drew.heap.size := (Array.getElem?_eq_some_iff.1 hq).1
  obtain ⟨v', w5, hrun, ho5, hg5, hob5⟩ := app_terms (w.alloc Z).drew 0 (.slice A L.length c) L.length cs (own_below m2 hal) ⟨w.heap.size, 0, none⟩ 1 1 [.int .i64 0, .int .i64 0, .slice none 0 0, .slice none 0 0] rfl (fun u hu => by
    simp only [List.mem_cons, List.not_mem_nil, or_false] at hu
    rcases hu with rfl | rfl | rfl | rfl <;> rfl) (fun j u hu => by
    rw [Addr.add_lit, Nat.zero_add, Lib.cell_of_heap (hq.trans (congrArg some hZ.symm)), ← hu]
    simp) (by omega) (Nat.zero_le _)
  obtain ⟨A10, c10, rfl, k3, k4, k5⟩ := own4_shape ho5
  obtain ⟨g10, rfl, _, hg10⟩ := k5 (by omega)
  rw [own_le A, m3] at hob5 hg5
  have hnew : some g10 = ob ∨ w.heap.size ≤ g10 := by
    rcases hob5 with e | ⟨g', e, hg'⟩
    · exact .inl e
    · have e : some g10 = some g' := e
      cases e
      exact .inr (by omega)
  have h10 : g10 ≠ rb := by
    rcases hnew with e | e
    · exact fun e2 => h.apart (by rw [← e, e2])
    · omega
  have hoffB : Off (fun g => ob = some g) w w5 := (Off.of_below (S := fun g => ob = some g) hal).trans (Off.grown (S := fun g => ob = some g) hg5 fun g e => e) (fun _ _ e => e) (fun _ _ e => e)
  have hs35 := hoffB.size
  obtain ⟨w6, hw6⟩ : ∃ x, set4 w5 g10 (L.length * 4) c0 c1 c2 c3 = x := ⟨_, rfl⟩
  have hoffC := Off.set4 (S := fun g => g = g10) w5 g10 (L.length * 4) c0 c1 c2 c3 rfl
  have hrow6 := set4_own (W := w5) (a := cs) (r := []) ho5 c0 c1 c2 c3
  rw [hcl, hw6, List.append_nil] at hrow6
  rw [hw6] at hoffC
  have hrb5 : w5.heap[rb]? = some (.cells #[.slice A L.length c] 60) := (hoffB.block rb hrl (fun e => h.apart e)).trans m1
  have hrb6 := (hoffC.block rb (by omega) (fun e => h10 e.symm)).trans hrb5
  have hoffD := Off.set (S := fun g => g = rb) w6 rb 0 (.slice (some ⟨g10, 0, none⟩) (L.length + 1) c10) rfl
  have hrb7 := set_heap w6 rb 0 (.slice (some ⟨g10, 0, none⟩) (L.length + 1) c10) _ _ _ hrb6
  obtain ⟨w7, hw7⟩ : ∃ x, w6.setCell ⟨rb, 0, none⟩ (.slice (some ⟨g10, 0, none⟩) (L.length + 1) c10) = x := ⟨_, rfl⟩
  rw [hw7] at hoffD hrb7
  have hs56 := hoffC.size
  have hz5 : ∀ i u, i < 4 → ([.int .i64 0, .int .i64 0, .slice none 0 0, .slice none 0 0] : List Value)[i]? = some u → w5.cell? ⟨g10, L.length * 4 + i, none⟩ = some u := fun i u hi hu => by
    rw [ho5.cellAt (L.length * 4 + i) (by omega), List.getElem?_append_right (by omega), hcl, Nat.add_sub_cancel_left, hu]
  have hbox : ∀ W : World, W.heap[bx]? = w.heap[bx]? → W.cell? ⟨bx, 0, none⟩ = some c0 ∧ W.cell? ⟨bx, 1, none⟩ = some c1 ∧ W.cell? ⟨bx, 2, none⟩ = some c2 ∧ W.cell? ⟨bx, 3, none⟩ = some c3 := fun W hW => by
    have e := hW.trans hbx
    exact ⟨(Lib.cell_of_heap e _).trans rfl, (Lib.cell_of_heap e _).trans rfl, (Lib.cell_of_heap e _).trans rfl, (Lib.cell_of_heap e _).trans rfl⟩
  have hall : Off (fun g => ob = some g ∨ g = g10 ∨ g = rb) w w7 := (hoffB.trans hoffC (S'' := fun g => ob = some g ∨ g = g10 ∨ g = rb) (fun _ _ e => .inl e) (fun _ _ e => .inr (.inl e))).trans hoffD (fun _ _ e => e) (fun _ _ e => .inr (.inr e))
  have hQn : ∀ g, g < w.heap.size → Q g → ¬ (ob = some g ∨ g = g10 ∨ g = rb) := fun g hgl hg e => by
    rcases e with e | e | e
    · exact h.free g hg (.inr e)
    · rcases hnew with e2 | e2
      · exact h.free g hg (.inr (by rw [← e2, e]))
      · omega
    · exact h.free g hg (.inl e)
  subst hw7 hw6 hZ
  refine ⟨A, c, g10, c10, w5, ⟨(Lib.cell_of_heap m1 _).trans rfl, ((below_new w _).cell (p := ⟨rb, 0, none⟩) hrl).trans ((Lib.cell_of_heap m1 _).trans rfl)⟩, ⟨k1, by unfold maxLen at k2; omega⟩, hrun, ⟨k3, by unfold maxLen at k4; omega⟩, ?_, ⟨fun j => ho5.frozenAt j, hz5 0 _ (by omega) rfl, hz5 1 _ (by omega) rfl, hz5 2 _ (by omega) rfl, hz5 3 _ (by omega) rfl⟩, ⟨h10, Lib.frozen_of_heap hrb5 _, (Lib.cell_of_heap hrb5 _).trans rfl⟩, (Lib.cell_of_heap hrb7 _).trans rfl, ?_, hnew, ?_⟩
  · rintro W (rfl | rfl | rfl)
    · exact hbox _ rfl
    · exact hbox _ (heap_old_ _ _ hbl)
    · exact hbox _ (hoffB.block _ hbl (fun e => hbm (.inr e)))
  · refine ⟨⟨some ⟨g10, 0, none⟩, c10, cs ++ [c0, c1, c2, c3], ?_, ?_, rfl, ?_⟩, fun e => h10 (Option.some.inj e), fun g hg hm => ?_, ?_⟩
    · rw [List.length_append]; exact hrb7
    · rw [List.length_append]
      refine own_same hrow6 fun g hg => ?_
      have hg : some g10 = some g := hg
      cases hg
      exact hoffD.block g10 (by omega) h10
    · exact Quads.snoc (TmC.stays (hall.stays hQn) _ _ _ _ _ ht) (Quads.stays (hall.stays hQn) m4)
    · refine hQn g (hQ g hg) hg ?_
      rcases hm with e | e
      · exact .inr (.inr e)
      · exact .inr (.inl (Option.some.inj e).symm)
    · rw [List.length_append]; exact hl
  · refine hall.mono fun g hgl e => ?_
    rcases e with e | e | e
    · exact .inr e
    · rcases hnew with e2 | e2
      · exact .inr (by rw [← e2, e])
      · omega
    · exact .inl e
/-- What the document's put answers. -/
def rnumP (t : Tm) (L : List Tm) : Int := match findV t L with
  | some i => i
  | none => ((putV t L).length : Int) - 1
theorem rnumP_some {t : Tm} {L : List Tm} {i : Nat} (h : findV t L = some i) : rnumP t L = i := by unfold rnumP; rw [h]
theorem rnumP_none {t : Tm} {L : List Tm} (h : findV t L = none) : rnumP t L = ((putV t L).length : Int) - 1 := by unfold rnumP; rw [h]
def RPutsAt (t : Tm) : Prop := ∀ (Q B : Nat → Prop) (rb : Nat) (ob : Option Nat) (L : List Tm) (v : Value) (w : World), RVl Q w rb ob L → TmV B w t v → (∀ g, B g → Q g) → (∀ g, Q g → g < w.heap.size) → L.length + szT t ≤ 100000 →
    Calls Tryz.prog 50 #[.pointer (some ⟨rb, 0, none⟩), v] w fun e w' => ∃ ob', e = .returned (.int .i64 (rnumP t L)) ∧ RVl Q w' rb ob' (putV t L) ∧ (ob' = ob ∨ ∃ g, ob' = some g ∧ w.heap.size ≤ g) ∧ Off (MutR rb ob) w w'
/-- In the midst of a put. -/
structure RI (w : World) (Q : Nat → Prop) (rb : Nat) (ob0 : Option Nat) (tb : Obj) (Lx : List Tm) (ob : Option Nat) (wx : World) : Prop where
  vlt : RVl Q wx rb ob Lx
  hob : ob = ob0 ∨ ∃ g, ob = some g ∧ w.heap.size + 1 ≤ g
  off : Off (MutR rb ob0) w wx
  box : wx.heap[w.heap.size]? = some tb
  rlt : rb < w.heap.size
  olt : ∀ g, ob0 = some g → g < w.heap.size
section
variable {w : World} {Q : Nat → Prop} {rb : Nat} {ob0 : Option Nat} {tb : Obj} {Lx : List Tm} {ob : Option Nat} {wx : World}
theorem RI.out_ (h : RI w Q rb ob0 tb Lx ob wx) : ¬ MutR rb ob w.heap.size := by
  rintro (e | e)
  · have := h.rlt; omega
  · rcases h.hob with e2 | ⟨g, e2, hg⟩
    · have := h.olt _ (e2 ▸ e); omega
    · rw [e2] at e; cases e; omega
theorem RI.old (h : RI w Q rb ob0 tb Lx ob wx) {g : Nat} (hl : g < w.heap.size) (hg : MutR rb ob g) : MutR rb ob0 g := by
  rcases hg with hg | hg
  · exact .inl hg
  · rcases h.hob with e | ⟨b, e, hb⟩
    · exact .inr (e ▸ hg)
    · rw [e] at hg; cases hg; omega
theorem RI.size (h : RI w Q rb ob0 tb Lx ob wx) : w.heap.size < wx.heap.size := (Array.getElem?_eq_some_iff.1 h.box).1
theorem RI.step (h : RI w Q rb ob0 tb Lx ob wx) {ob5 : Option Nat} {L5 : List Tm} {w5 : World} (hV : RVl Q w5 rb ob5 L5) (hob5 : ob5 = ob ∨ ∃ g, ob5 = some g ∧ wx.heap.size ≤ g) (hoff : Off (MutR rb ob) wx w5) : RI w Q rb ob0 tb L5 ob5 w5 := by
  have hz := h.size
  refine ⟨hV, ?_, h.off.trans hoff (fun _ _ e => e) (fun g hl e => h.old hl e), (hoff.block _ hz (fun e => h.out_ e)).trans h.box, h.rlt, h.olt⟩
  rcases hob5 with e | ⟨g, e, hg⟩
  · rw [e]; exact h.hob
  · exact .inr ⟨g, e, by omega⟩
end
set_option maxRecDepth 100000 in
set_option maxHeartbeats 3000000 in
theorem rput_step (o m : Int) (d : List Int) (ks : List Tm) (hk : ∀ k ∈ ks, RPutsAt k) : RPutsAt (.mk o m d ks) := by
  intro Q B rb ob L v w hV hv hBQ hQ hroom
  obtain ⟨c0, c1, c2, c3, rfl, hc⟩ := hv
  obtain ⟨oo, mm, A, la, ca, K, n, ck, rfl, rfl, rfl, rfl⟩ := hc.shape
  obtain ⟨hlen, hlc, hck9, _⟩ := kidv hc
  have hsz : szT (.mk o m d ks) = szTs ks + 1 := szT_kids o m d ks
  obtain ⟨W0, hW0⟩ : ∃ x, w.alloc (.cells #[.int .i64 oo, .int .i64 mm, .slice A la ca, .slice K n ck] 43) = x := ⟨_, rfl⟩
  have p0 : W0.heap[w.heap.size]? = some (.cells #[.int .i64 oo, .int .i64 mm, .slice A la ca, .slice K n ck] 43) := by rw [← hW0]; exact heap_new_ _ _
  have hb0 : Below w.heap.size w W0 := by rw [← hW0]; exact below_new _ _
  have hfind := rfind_any Q B rb ob L (.mk o m d ks) (.agg #[.int .i64 oo, .int .i64 mm, .slice A la ca, .slice K n ck]) W0 (hV.below hb0) ⟨_, _, _, _, rfl, TmC.below hb0 _ _ _ _ _ hc⟩
  obtain ⟨g0, g1, g2, g3⟩ : W0.cell? ⟨w.heap.size, 0, none⟩ = some (.int .i64 oo) ∧ W0.cell? ⟨w.heap.size, 1, none⟩ = some (.int .i64 mm) ∧ W0.cell? ⟨w.heap.size, 2, none⟩ = some (.slice A la ca) ∧ W0.cell? ⟨w.heap.size, 3, none⟩ = some (.slice K n ck) := ⟨(Lib.cell_of_heap p0 _).trans rfl, (Lib.cell_of_heap p0 _).trans rfl, (Lib.cell_of_heap p0 _).trans rfl, (Lib.cell_of_heap p0 _).trans rfl⟩
  cases hf : findV (.mk o m d ks) L with
  | some i =>
    rw [hf, numI_some hf] at hfind
    have hput : putV (.mk o m d ks) L = L := putV_had (List.mem_of_getElem? (findV_some hf).1)
    have HFIND := Lib.hid hfind
    have HE := Lib.hid (And.intro hV (And.intro hb0 (And.intro hput (rnumP_some hf))))
    have HW0 := Lib.hid hW0
    clear hfind hV hb0 hput hf p0 hc hW0 hk
    go_enter Tryz.func50, Tryz.ntmps50
    go_wp2_with (go_at_call 48; rw [HW0.out]; refine HFIND.out.mono ?_; rintro e wf ⟨rfl, hbf⟩)
    go_ret
    have hb := HE.out.2.1.trans (hbf.mono HE.out.2.1.size)
    exact ⟨ob, by rw [HE.out.2.2.2]; rfl, by rw [HE.out.2.2.1]; exact HE.out.1.below hb, .inl rfl, Off.of_below hb⟩
  | none =>
    rw [hf, numI_none hf] at hfind
    have hnot := findV_none.1 hf
    have hput := putV_new hnot
    have hri : ∀ wf, Below W0.heap.size W0 wf → RI w Q rb ob (.cells #[.int .i64 oo, .int .i64 mm, .slice A la ca, .slice K n ck] 43) (putsV (ks.take 0) L) ob wf := fun wf hbf => by
      have hb := hb0.trans (hbf.mono hb0.size)
      rw [List.take_zero, putsV_nil]
      exact ⟨hV.below hb, .inl rfl, Off.of_below hb, (hbf.block _ (Array.getElem?_eq_some_iff.1 p0).1).trans p0, hV.lt (.inl rfl), fun g e => hV.lt (.inr e)⟩
    have HFIND := Lib.hid hfind
    have HRI := Lib.hid hri
    have HW0 := Lib.hid hW0
    have HIH := Lib.hid hk
    have HC := Lib.hid hc
    have HQ := Lib.hid (And.intro hBQ (And.intro hQ hV.free))
    have HLEN := Lib.hid (And.intro hlen (And.intro hsz hroom))
    have HPUT := Lib.hid (And.intro hput (rnumP_none hf))
    clear hfind hri hV hb0 hput hf p0 hc hW0 hk hBQ hQ hlen hsz hroom hnot
    go_enter Tryz.func50, Tryz.ntmps50
    go_wp2_with (go_at_call 48; rw [HW0.out]; refine HFIND.out.mono ?_; rintro e wf ⟨rfl, hbf⟩; have HR0 := Lib.hid (HRI.out wf hbf); clear hbf)
    clear g0 g1 g2 g3
    go_loopg [7] (n + 1) (fun gk s7 wx => ∃ (i : Nat) (obx : Option Nat), s7 = .int .i64 i ∧ i ≤ n ∧ n - i < gk ∧ Hid (RI w Q rb ob (.cells #[.int .i64 oo, .int .i64 mm, .slice A la ca, .slice K n ck] 43) (putsV (ks.take i) L) obx wx))
    case atStart => exact ⟨0, ob, rfl, by omega, by omega, HR0⟩
    case round =>
      obtain ⟨i, obx, rfl, hi, hgk, HI⟩ := hrel
      have hbx := HI.out.box
      obtain ⟨b0, b1, b2, b3⟩ : wr.cell? ⟨w.heap.size, 0, none⟩ = some (.int .i64 oo) ∧ wr.cell? ⟨w.heap.size, 1, none⟩ = some (.int .i64 mm) ∧ wr.cell? ⟨w.heap.size, 2, none⟩ = some (.slice A la ca) ∧ wr.cell? ⟨w.heap.size, 3, none⟩ = some (.slice K n ck) := ⟨(Lib.cell_of_heap hbx _).trans rfl, (Lib.cell_of_heap hbx _).trans rfl, (Lib.cell_of_heap hbx _).trans rfl, (Lib.cell_of_heap hbx _).trans rfl⟩
      have hst : Stays B w wr := HI.out.off.stays fun g _ hg => HQ.out.2.2 g (HQ.out.1 g hg)
      have hcw := TmC.stays hst _ _ _ _ _ HC.out
      by_cases hlt : i < n
      · have hltz : (i : Int) < (n : Int) := by omega
        obtain ⟨gk', rfl⟩ : ∃ g', gk = g' + 1 := ⟨gk - 1, by omega⟩
        have HN12 := Lib.hid (And.intro (show i + 1 ≤ n from hlt) (show n - (i + 1) < gk' by omega))
        obtain ⟨_, _, _, hkk⟩ := kidv hcw
        obtain ⟨k, g, off, d0, d1, d2, d3, hki, rfl, e0, e1, e2, e3, hd⟩ := hkk i hlt
        obtain ⟨to, tm, tA, tla, tca, tK, tlk, tck, q0, q1, q2, q3⟩ := hd.shape
        subst q0 q1 q2 q3
        have hmem : k ∈ ks := List.mem_of_getElem? hki
        have hil := (List.getElem?_eq_some_iff.1 hki).1
        have hsum : (putsV (ks.take i) L).length + szT k ≤ 100000 := by
          have h1 := (puts_ones (ks.take i) L).len
          have h2 : szTs (ks.take i) + szT k ≤ szTs ks := by
            have e : ks = ks.take i ++ k :: ks.drop (i + 1) := by
              conv => lhs; rw [← List.take_append_drop i ks, List.drop_eq_getElem_cons hil, (List.getElem?_eq_some_iff.1 hki).2]
            conv => rhs; rw [e]
            rw [szTs_app, szTs_two]
            omega
          have h3 := HLEN.out.2
          omega
        have C1 := HIH.out k hmem Q B rb obx (putsV (ks.take i) L) (.agg #[.int .i64 to, .int .i64 tm, .slice tA tla tca, .slice tK tlk tck]) wr HI.out.vlt ⟨_, _, _, _, rfl, hd⟩ HQ.out.1 (fun g hg => by have := HQ.out.2.1 g hg; have := HI.out.size; omega) hsum
        rw [← puts_snoc ks i k L hki] at C1
        have HC1 := Lib.hid C1
        have HSTEP := Lib.hid fun (w5 : World) (ob5 : Option Nat) (hV : RVl Q w5 rb ob5 (putsV (ks.take (i + 1)) L)) hob hoff => HI.out.step hV hob hoff
        clear C1 hst hkk hd hki hmem hil hsum hgk hcw hbx HI
        go_wp2_with (go_at_call 50; refine HC1.out.mono ?_; rintro e w5 ⟨ob5, rfl, hV5, hob5, hoff5⟩; have HS5 := Lib.hid (HSTEP.out w5 ob5 hV5 hob5 hoff5); clear hV5 hob5 hoff5)
        clear b0 b1 b2 b3 e0 e1 e2 e3 HC1 HSTEP
        go_wp2
        go_roundg gk'
        case measure => omega
        case rel => exact ⟨i + 1, ob5, by go_num, HN12.out.1, HN12.out.2, HS5⟩
      · have hltz : ¬ (i : Int) < (n : Int) := by omega
        obtain rfl : i = n := by omega
        have htk : ks.take i = ks := List.take_of_length_le (by rw [HLEN.out.1]; exact Nat.le_refl _)
        have hI := HI.out
        rw [htk] at hI
        have hl1 : (putsV ks L).length + 1 ≤ 100000 := by
          have h1 := (puts_ones ks L).len
          have h2 := HLEN.out.2
          omega
        have hls := hI.vlt.last (TmC.mono HQ.out.1 _ _ _ _ _ hcw) hl1 (fun g hg => by have := HQ.out.2.1 g hg; have := hI.size; omega) w.heap.size hbx hI.out_
        have hstep := fun w5 ob5 hV hob hoff => hI.step (w5 := w5) (ob5 := ob5) (L5 := putsV ks L ++ [.mk o m d ks]) hV hob hoff
        have HSTEP := Lib.hid hstep
        obtain ⟨A8, c8, g10, c10, w5, ⟨s4, s4'⟩, ⟨s5, s6⟩, hrun, ⟨s7, s8⟩, s3, ⟨s9, u0, u1, u2, u3⟩, ⟨u4, u5, u6⟩, u8, hV8, hob8, hoff8⟩ := hls
        have HEND := Lib.hid (HSTEP.out _ (some g10) hV8 (hob8.imp id fun h => ⟨g10, rfl, h⟩) hoff8)
        obtain ⟨p0, p1, p2, p3⟩ := s3 wr (.inl rfl)
        obtain ⟨q0, q1, q2, q3⟩ := s3 _ (.inr (.inl rfl))
        obtain ⟨r0, r1, r2, r3⟩ := s3 w5 (.inr (.inr rfl))
        have v0 := s9 ((putsV ks L).length * 4)
        have v1 := s9 ((putsV ks L).length * 4 + 1)
        have v2 := s9 ((putsV ks L).length * 4 + 2)
        have v3 := s9 ((putsV ks L).length * 4 + 3)
        have hpl : (putV (.mk o m d ks) L).length = (putsV ks L).length + 1 := by rw [HPUT.out.1, List.length_append]; rfl
        obtain ⟨l, hl⟩ : ∃ x, (putsV ks L).length = x := ⟨_, rfl⟩
        have HLX := Lib.hid hl
        rw [hl] at s4 s4' s5 hrun s7 u0 u1 u2 u3 u6 u8 v0 v1 v2 v3 hl1 hpl HEND
        have HPL := Lib.hid hpl
        have hlz : (l : Int) < ((l + 1 : Nat) : Int) := by omega
        have hlz2 : (l : Int) < (l : Int) + 1 := by omega
        have hlb : l < l + 1 := by omega
        have hw9 : IntKind.i64.wrap (((l + 1 : Nat) : Int) - 1) = (l : Int) := by rw [IntWalk.i64_in _ (by omega)]; omega
        have hret : (((l + 1 : Nat) : Int) - 1) = (l : Int) := by omega
        have hw8 : IntKind.i64.wrap (l : Int) = (l : Int) := IntWalk.i64_in _ (by omega)
        have hcomm := set4_comm w5 g10 rb (l * 4) 0 (.int .i64 oo) (.int .i64 mm) (.slice A la ca) (.slice K i ck) (.slice (some ⟨g10, 0, none⟩) (l + 1) c10) u4
        unfold set4 at u8 hcomm HEND
        have HCOMM := Lib.hid hcomm
        have hu8 := u8
        clear hcomm hl hI hstep hV8 hob8 hoff8 s3 s9 HSTEP hst hcw HI hgk htk hbx hpl u8
        go_wp2_with fail
        go_region_law (first | (refine step_run rfl (.tmp 33) (.tmp 36) 22 rfl _ _ _ (by first | rfl | simp [Act.eval, Act.put]) (by first | rfl | simp [Act.eval, Act.put]) hrun ?_))
        all_goals
          clear p0 p1 p2 p3 q0 q1 q2 q3 r0 r1 r2 r3 v0 v1 v2 v3 u0 u1 u2 u3 s4 s4' s5 s6 hrun s7 s8 u5 u6
          try rw [HCOMM.out]
          go_wp2
          go_ret
          refine ⟨some g10, ?_, ?_, ?_, HEND.out.off⟩
          · rw [HPUT.out.2, HPL.out, hret]
            rfl
          · rw [HPUT.out.1]; exact HEND.out.vlt
          · exact HEND.out.hob.imp id fun ⟨g, e, hg⟩ => ⟨g, e, by omega⟩
theorem rputs_all : ∀ (N : Nat) (t : Tm), szT t ≤ N → RPutsAt t
  | 0, .mk _ _ _ ks, h => by unfold szT at h; omega
  | N + 1, .mk o m d ks, h => by
    unfold szT at h
    exact rput_step o m d ks (fun k hk => rputs_all N k (by have := szTs_mem hk; omega))
theorem rput_any (t : Tm) : RPutsAt t := rputs_all _ t (Nat.le_refl _)
end Go.Proofs.YtlhogjigdmpokaaGreatDoor.vtc
namespace Go.Proofs.YtlhogjigdmpokaaGreatDoor.vtc
open Go.RowKit Go.Proofs.YtlhogjigdmpokaaGreatDoor.tlvc Go.Proofs.YtlhogjigdmpokaaGreatDoor.tmc
set_option linter.unusedVariables false
def RInternPost (Q : Nat → Prop) (rb : Nat) (ob : Option Nat) (w : World) (r : Int × Int × List Tm) (e : Ending) (w' : World) : Prop := ∃ ob', e = .returned (.tuple #[.int .i64 r.1, .int .i64 r.2.1]) ∧ RVl Q w' rb ob' r.2.2 ∧ (ob' = ob ∨ ∃ g, ob' = some g ∧ w.heap.size ≤ g) ∧ Off (MutR rb ob) w w'
theorem rintern_same {Q : Nat → Prop} {rb : Nat} {ob : Option Nat} {L : List Tm} {w w' : World} (hV : RVl Q w rb ob L) (h : Below w.heap.size w w') (n e : Int) : RInternPost Q rb ob w (n, e, L) (.returned (.tuple #[.int .i64 n, .int .i64 e])) w' :=
  ⟨ob, rfl, hV.below h, .inl rfl, Off.of_below h⟩
set_option maxRecDepth 100000 in
set_option maxHeartbeats 8000000 in
theorem rintern_any (Q B : Nat → Prop) (rb : Nat) (ob : Option Nat) (L : List Tm) (t : Tm) (v : Value) (w : World) (hV : RVl Q w rb ob L) (hv : TmV B w t v) (hBQ : ∀ g, B g → Q g) (hQ : ∀ g, Q g → g < w.heap.size) (hsz : szT t ≤ 10000) :
    Calls Tryz.prog 28 #[.pointer (some ⟨rb, 0, none⟩), v] w (RInternPost Q rb ob w (internV t L)) := by
  obtain ⟨c0, c1, c2, c3, rfl, hc⟩ := hv
  obtain ⟨oo, mm, A, la, ca, K, n, ck, rfl, rfl, rfl, rfl⟩ := hc.shape
  have hb0 : Below w.heap.size w (w.alloc (.cells #[.int .i64 oo, .int .i64 mm, .slice A la ca, .slice K n ck] 43)) := below_new _ _
  obtain ⟨W0, hW0⟩ : ∃ x, w.alloc (.cells #[.int .i64 oo, .int .i64 mm, .slice A la ca, .slice K n ck] 43) = x := ⟨_, rfl⟩
  rw [hW0] at hb0
  have p0 : W0.heap[w.heap.size]? = some (.cells #[.int .i64 oo, .int .i64 mm, .slice A la ca, .slice K n ck] 43) := by rw [← hW0]; exact heap_new_ _ _
  have hz0 : w.heap.size < W0.heap.size := (Array.getElem?_eq_some_iff.1 p0).1
  have hbox : ∀ W, Below W0.heap.size W0 W → W.cell? ⟨w.heap.size, 0, none⟩ = some (.int .i64 oo) ∧ W.cell? ⟨w.heap.size, 1, none⟩ = some (.int .i64 mm) ∧ W.cell? ⟨w.heap.size, 2, none⟩ = some (.slice A la ca) ∧ W.cell? ⟨w.heap.size, 3, none⟩ = some (.slice K n ck) := fun W hW => by
    have h := (hW.block w.heap.size (by omega)).trans p0
    exact ⟨(Lib.cell_of_heap h _).trans rfl, (Lib.cell_of_heap h _).trans rfl, (Lib.cell_of_heap h _).trans rfl, (Lib.cell_of_heap h _).trans rfl⟩
  have hte : ∀ W, Below W0.heap.size W0 W → TmV B W t (.agg #[.int .i64 oo, .int .i64 mm, .slice A la ca, .slice K n ck]) := fun W hW => ⟨_, _, _, _, rfl, TmC.below (hb0.trans (hW.mono hb0.size)) _ _ _ _ _ hc⟩
  have C1 := rright_any t B (.agg #[.int .i64 oo, .int .i64 mm, .slice A la ca, .slice K n ck]) W0 (hte W0 (Below.refl _ _))
  have hV0 := hV.below hb0
  have C2 := fun (W : World) (hW : Below W0.heap.size W0 W) => rfind_any Q B rb ob L t (.agg #[.int .i64 oo, .int .i64 mm, .slice A la ca, .slice K n ck]) W (hV0.below hW) (hte W hW)
  have C4 := fun (hlt : L.length + szT t ≤ 100000) (W : World) (hW : Below W0.heap.size W0 W) => rput_any t Q B rb ob L (.agg #[.int .i64 oo, .int .i64 mm, .slice A la ca, .slice K n ck]) W (hV0.below hW) (hte W hW) hBQ (fun g hg => by have := hQ g hg; have := hW.size; omega) hlt
  obtain ⟨b0, b1, b2, b3⟩ := hbox W0 (Below.refl _ _)
  have HB0 := Lib.hid hb0
  have HBX := Lib.hid hbox
  have HV := Lib.hid hV
  have HV0 := Lib.hid hV0
  have HTE := Lib.hid hte
  have HC4 := Lib.hid C4
  have HWW := Lib.hid hW0
  cases hr : rightF t 0 with
  | false =>
    rw [intern_no hr]
    rw [hr] at C1
    have HC1 := Lib.hid C1
    clear C1 C2 C4 hr hb0 hbox hc hV hV0 p0 hz0 hte hBQ hQ hW0
    go_enter Tryz.func28, Tryz.ntmps28
    go_wp2_with (first | (go_at_call 47; rw [HWW.out]; refine HC1.out.mono ?_; rintro e w1 ⟨rfl, hb1⟩))
    have HE := Lib.hid (HB0.out.trans (hb1.mono HB0.out.size))
    clear hb1
    go_wp2
    go_ret2
    exact rintern_same HV.out HE.out _ _
  | true =>
    rw [hr] at C1
    have HC1 := Lib.hid C1
    cases hf : findV t L with
    | some i =>
      rw [intern_had hr hf]
      have C3 := C2
      rw [numI_some hf, hf] at C3
      have HC3 := Lib.hid C3
      clear C1 C2 C3 C4 hr hb0 hbox hc hV hV0 p0 hz0 hte hBQ hQ hf hW0
      go_enter Tryz.func28, Tryz.ntmps28
      go_wp2_with (first | (go_at_call 47; rw [HWW.out]; refine HC1.out.mono ?_; rintro e w1 ⟨rfl, hb1⟩; obtain ⟨y0, y1, y2, y3⟩ := HBX.out w1 hb1) | (go_at_call 48; refine (HC3.out w1 hb1).mono ?_; rintro e w2 ⟨rfl, hb2⟩))
      have HE := Lib.hid (HB0.out.trans ((hb1.trans (hb2.mono hb1.size)).mono HB0.out.size))
      clear hb1 hb2 y0 y1 y2 y3
      go_wp2
      go_ret2
      exact rintern_same HV.out HE.out _ _
    | none =>
      have C3 := C2
      rw [numI_none hf, hf] at C3
      have HC3 := Lib.hid C3
      have hcell : ∀ (W : World), Below W0.heap.size W0 W → ∃ A9 c9, ∀ (q : Nat) (os : Array Obj), (Sort.grow (redrawn W q) os).cell? ⟨rb, 0, none⟩ = some (.slice A9 L.length c9) := fun W hW => by
        obtain ⟨A9, c9, x0, _⟩ := (HV0.out.below hW).at
        exact ⟨A9, c9, fun q os => cell_regrown x0 q os⟩
      have hsize := fun (W : World) (hW : Below W0.heap.size W0 W) (q : Nat) (os : Array Obj) => refSize_any 10000 t hsz (by omega) (.agg #[.int .i64 oo, .int .i64 mm, .slice A la ca, .slice K n ck]) (Sort.grow (redrawn W q) os) (TmV.below (HTE.out W hW) (below_regrown W q os))
      have HCELL := Lib.hid hcell
      have HSIZE := Lib.hid hsize
      have hll := HV.out.len
      obtain ⟨l, hl⟩ : ∃ x, L.length = x := ⟨_, rfl⟩
      obtain ⟨z, hz⟩ : ∃ x, szT t = x := ⟨_, rfl⟩
      rw [hl] at HCELL hll
      rw [hz] at HSIZE hsz
      have hwrap : IntKind.i64.wrap ((l : Int) + (z : Int)) = (l : Int) + (z : Int) := IntWalk.i64_in _ (by omega)
      by_cases hroom : l + z ≤ 4096
      · have hrz : ¬ (4096 : Int) < (l : Int) + (z : Int) := by omega
        rw [intern_new hr hf (by omega)]
        have HF := Lib.hid (And.intro hf (And.intro hr (show L.length + szT t ≤ 100000 by omega)))
        clear C1 C2 C3 C4 hb0 hbox hc hV hV0 p0 hz0 hte hBQ hQ hf hcell hsize hr hl hz hW0
        go_enter Tryz.func28, Tryz.ntmps28
        go_wp2_with (first | (go_at_call 47; rw [HWW.out]; refine HC1.out.mono ?_; rintro e w1 ⟨rfl, hb1⟩; obtain ⟨y0, y1, y2, y3⟩ := HBX.out w1 hb1) | (go_at_call 48; refine (HC3.out w1 hb1).mono ?_; rintro e w2 ⟨rfl, hb2⟩))
        have hb3 := hb1.trans (hb2.mono hb1.size)
        have HB3 := Lib.hid hb3
        have z4 := fun (q : Nat) (os : Array Obj) => HBX.out _ (hb3.trans ((below_regrown w2 q os).mono hb3.size))
        have z0 := fun q os => (z4 q os).1
        have z1 := fun q os => (z4 q os).2.1
        have z2 := fun q os => (z4 q os).2.2.1
        have z3 := fun q os => (z4 q os).2.2.2
        obtain ⟨A9, c9, x9⟩ := HCELL.out w2 hb3
        have HS2 := Lib.hid (HSIZE.out w2 hb3)
        clear hb1 hb2 hb3 y0 y1 y2 y3 b0 b1 b2 b3 z4
        refine wp_region_quiet_below (by kernel_rfl) (by kernel_rfl) ?_
        repeat (go_big_quiet_step ((go_at_call 49; refine Calls.regrown_of (HS2.out _ _))))
        refine wpQuiet_nil ?_
        intro _ hw'
        obtain ⟨⟨nq, osq⟩, hw''⟩ := hw'
        subst hw''
        obtain ⟨W, hW⟩ : ∃ x, Sort.grow (redrawn w2 nq) osq = x := ⟨_, rfl⟩
        have hbW : Below W0.heap.size W0 W := by rw [← hW]; exact HB3.out.trans ((below_regrown w2 nq osq).mono HB3.out.size)
        rw [hW]
        have HBW := Lib.hid hbW
        clear hbW hW z0 z1 z2 z3 HS2 x9
        obtain ⟨y0, y1, y2, y3⟩ := HBX.out W HBW.out
        have C5 := HC4.out HF.out.2.2 W HBW.out
        rw [rnumP_none HF.out.1] at C5
        have HC5 := Lib.hid C5
        clear C5
        go_wp2_with (go_at_call 50; refine HC5.out.mono ?_; rintro e w4 ⟨ob', rfl, hV4, hob4, hoff4⟩)
        have HE := Lib.hid (And.intro hV4 (And.intro hob4 hoff4))
        clear hV4 hob4 hoff4 y0 y1 y2 y3 HC5
        go_wp2
        go_ret2
        obtain ⟨hV4, hob4, hoff4⟩ := HE.out
        have hbw : Below w.heap.size w W := HB0.out.trans (HBW.out.mono HB0.out.size)
        have hs := hbw.size
        exact ⟨ob', rfl, hV4, hob4.imp id (fun ⟨g, e, hg⟩ => ⟨g, e, by omega⟩), (Off.of_below (S := MutR rb ob) hbw).trans hoff4 (fun _ _ e => e) (fun _ _ e => e)⟩
      · have hrz : (4096 : Int) < (l : Int) + (z : Int) := by omega
        rw [intern_full hr hf (by omega)]
        clear C1 C2 C3 C4 hb0 hbox hc hV hV0 p0 hz0 hte hBQ hQ hf hcell hsize hr hl hz hW0
        go_enter Tryz.func28, Tryz.ntmps28
        go_wp2_with (first | (go_at_call 47; rw [HWW.out]; refine HC1.out.mono ?_; rintro e w1 ⟨rfl, hb1⟩; obtain ⟨y0, y1, y2, y3⟩ := HBX.out w1 hb1) | (go_at_call 48; refine (HC3.out w1 hb1).mono ?_; rintro e w2 ⟨rfl, hb2⟩))
        have hb3 := hb1.trans (hb2.mono hb1.size)
        have HB3 := Lib.hid hb3
        have z4 := fun (q : Nat) (os : Array Obj) => HBX.out _ (hb3.trans ((below_regrown w2 q os).mono hb3.size))
        have z0 := fun q os => (z4 q os).1
        have z1 := fun q os => (z4 q os).2.1
        have z2 := fun q os => (z4 q os).2.2.1
        have z3 := fun q os => (z4 q os).2.2.2
        obtain ⟨A9, c9, x9⟩ := HCELL.out w2 hb3
        have HS2 := Lib.hid (HSIZE.out w2 hb3)
        clear hb1 hb2 hb3 y0 y1 y2 y3 b0 b1 b2 b3 z4
        refine wp_region_quiet_below (by kernel_rfl) (by kernel_rfl) ?_
        repeat (go_big_quiet_step ((go_at_call 49; refine Calls.regrown_of (HS2.out _ _))))
        refine wpQuiet_nil ?_
        intro _ hw'
        obtain ⟨⟨nq, osq⟩, hw''⟩ := hw'
        subst hw''
        obtain ⟨W, hW⟩ : ∃ x, Sort.grow (redrawn w2 nq) osq = x := ⟨_, rfl⟩
        have hbW : Below W0.heap.size W0 W := by rw [← hW]; exact HB3.out.trans ((below_regrown w2 nq osq).mono HB3.out.size)
        rw [hW]
        have HBW := Lib.hid hbW
        clear hbW hW z0 z1 z2 z3 HS2 x9
        have HE := Lib.hid (HB0.out.trans (HBW.out.mono HB0.out.size))
        go_wp2
        go_ret2
        exact rintern_same HV.out HE.out _ _
def RTermPost (Q : Nat → Prop) (w : World) (t : Tm) (is : Bool) (e : Ending) (w' : World) : Prop := ∃ v, e = .returned (.tuple #[v, .bool is]) ∧ TmV Q w' t v ∧ Below w.heap.size w w'
end Go.Proofs.YtlhogjigdmpokaaGreatDoor.vtc
