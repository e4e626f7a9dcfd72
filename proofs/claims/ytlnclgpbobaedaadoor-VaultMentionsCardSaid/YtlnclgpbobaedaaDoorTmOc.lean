/- slices.CompareFunc at terms, by Order. -/
import Derived.Test.YtlnclgpbobaedaaDoorTmO
import Derived.Shelf.Abstract
import Derived.Deep.LoopGhost
namespace Go.Proofs.YtlnclgpbobaedaaDoor.tmc
open Go.RowKit Go.Proofs.YtlnclgpbobaedaaDoor.tlvc
set_option linter.unusedVariables false
/-- A slice of terms, whose cells lie in blocks of B. -/
def TmsB (B : Nat → Prop) (w : World) (A : Option Addr) (ks : List Tm) : Prop := 0 < ks.length → ∃ g off, A = some ⟨g, off, none⟩ ∧ g < w.heap.size ∧ B g ∧ KidsC B w g off ks
theorem TmsB.below {B : Nat → Prop} {w w' : World} {A : Option Addr} {ks : List Tm} (h : TmsB B w A ks) (hb : Below w.heap.size w w') : TmsB B w' A ks := fun hk => by
  obtain ⟨g, off, e, hg, hB, hks⟩ := h hk
  exact ⟨g, off, e, Nat.lt_of_lt_of_le hg hb.size, hB, KidsC.below hb hg hB _ _ hks⟩
/-- The contract of Order at two terms. -/
def Orders (k m : Tm) : Prop := ∀ (C1 C2 : Nat → Prop) (v u : Value) (w : World), TmV C1 w k v → TmV C2 w m u → Calls Tryd.prog 46 #[v, u] w fun e w' => e = .returned (.int .i64 (ordT k m)) ∧ Below w.heap.size w w'
/-- .. and it draws no less. -/
def OrdersD (k m : Tm) : Prop := ∀ (C1 C2 : Nat → Prop) (v u : Value) (w : World), TmV C1 w k v → TmV C2 w m u → Calls Tryd.prog 46 #[v, u] w fun e w' => e = .returned (.int .i64 (ordT k m)) ∧ Below w.heap.size w w' ∧ w.drawn ≤ w'.drawn
theorem ordL_drop {ks ls : List Tm} {i : Nat} (h : i < ks.length) (h2 : i < ls.length) : ordL (ks.drop i) (ls.drop i) = or0 (ordT ks[i] ls[i]) (ordL (ks.drop (i + 1)) (ls.drop (i + 1))) := by
  rw [List.drop_eq_getElem_cons h, List.drop_eq_getElem_cons h2, ordL_cons]
set_option maxRecDepth 100000 in
set_option maxHeartbeats 8000000 in
theorem compareFunc_any (C1 C2 : Nat → Prop) (ks ls : List Tm) (A B : Option Addr) (la ca lb cb : Nat) (w : World) (e1 : ks.length = la) (e2 : ls.length = lb) (hA : TmsB C1 w A ks) (hB : TmsB C2 w B ls) (hc1 : la ≤ ca) (hc2 : lb ≤ cb) (hm1 : ca ≤ maxLen) (hm2 : cb ≤ maxLen)
    (ho : ∀ k ∈ ks, ∀ m, OrdersD k m) :
    Calls Tryd.prog 61 #[.slice A la ca, .slice B lb cb, .func (.func 46) #[] #[]] w fun e w' => e = .returned (.int .i64 (ordL ks ls)) ∧ Below w.heap.size w w' ∧ w.drawn ≤ w'.drawn := by
  have hen := enters_of Tryd.func46 (by kernel_rfl) rfl
  obtain ⟨ANS, hANS⟩ : ∃ x, ordL ks ls = x := ⟨_, rfl⟩
  rw [hANS]
  have HO := Lib.hid ho
  have HA := Lib.hid hA
  have HB := Lib.hid hB
  have h9 : ca ≤ 9223372036854775807 := by unfold maxLen at hm1; omega
  have h8 : cb ≤ 9223372036854775807 := by unfold maxLen at hm2; omega
  clear ho hA hB
  go_enter Tryd.func61, Tryd.ntmps61
  go_wp2_with fail
  go_loopg [13] (la + 1) (fun gk s13 wx => ∃ (i : Nat), s13 = .int .i64 i ∧ i ≤ la ∧ i ≤ lb ∧ la - i < gk ∧ Hid (ordL (ks.drop i) (ls.drop i) = ANS) ∧ Below w.heap.size w wx ∧ w.drawn ≤ wx.drawn)
  case atStart => exact ⟨0, rfl, by omega, by omega, by omega, Lib.hid hANS, Below.refl _ _, Nat.le_refl _⟩
  case round =>
    obtain ⟨i, rfl, hi, hj, hgk, hq, hbel, hdr⟩ := hrel
    by_cases hlt : i < la
    · have hltz : (i : Int) < (la : Int) := by omega
      obtain ⟨gk', rfl⟩ : ∃ g', gk = g' + 1 := ⟨gk - 1, by omega⟩
      obtain ⟨g, off, rfl, hg, hBg, hks⟩ := HA.out (by omega)
      obtain ⟨d0, d1, d2, d3, x0, x1, x2, x3, hd⟩ := (KidsC.below hbel hg hBg ks off hks).at i (by omega)
      clear hks
      obtain ⟨to, tm, tA, tla, tca, tK, tlk, tck, q0, q1, q2, q3⟩ := hd.shape
      subst q0 q1 q2 q3
      have hbn : Below wr.heap.size wr (wr.alloc (.cells #[.int .i64 to, .int .i64 tm, .slice tA tla tca, .slice tK tlk tck] 26)) := (Below.refl _ _).alloc (Nat.le_refl _) _
      by_cases hl2 : i < lb
      · have hl2z : ¬ (lb : Int) ≤ (i : Int) := by omega
        have hl3 : (i : Int) < (lb : Int) := by omega
        obtain ⟨g2, off2, rfl, hg2, hBg2, hms⟩ := HB.out (by omega)
        obtain ⟨f0, f1, f2, f3, y0, y1, y2, y3, hf⟩ := (KidsC.below hbel hg2 hBg2 ls off2 hms).at i (by omega)
        clear hms
        obtain ⟨uo, um, uA, ula, uca, uK, ulk, uck, r0, r1, r2, r3⟩ := hf.shape
        subst r0 r1 r2 r3
        have lg2 : g2 < wr.heap.size := Nat.lt_of_lt_of_le hg2 hbel.size
        have hbn2 := hbn.alloc hbn.size (.cells #[.int .i64 uo, .int .i64 um, .slice uA ula uca, .slice uK ulk uck] 26)
        have ih := HO.out ks[i] (List.getElem_mem _) (ls[i]'(by omega)) C1 C2 (.agg #[.int .i64 to, .int .i64 tm, .slice tA tla tca, .slice tK tlk tck]) (.agg #[.int .i64 uo, .int .i64 um, .slice uA ula uca, .slice uK ulk uck])
          ((wr.alloc (.cells #[.int .i64 to, .int .i64 tm, .slice tA tla tca, .slice tK tlk tck] 26)).alloc (.cells #[.int .i64 uo, .int .i64 um, .slice uA ula uca, .slice uK ulk uck] 26))
          ⟨_, _, _, _, rfl, TmC.below hbn2 _ _ _ _ _ hd⟩ ⟨_, _, _, _, rfl, TmC.below hbn2 _ _ _ _ _ hf⟩
        have hq2 := hq.out
        rw [ordL_drop (by omega) (by omega)] at hq2
        obtain ⟨r, hr⟩ : ∃ x, ordT ks[i] (ls[i]'(by omega)) = x := ⟨_, rfl⟩
        rw [hr] at ih hq2
        have IH2 := Lib.hid ih
        have Q2 := Lib.hid hq2
        clear ih hq2 hd hf hr hq
        go_wp2_with fail
        refine IH2.out.mono ?_
        rintro e w2 ⟨rfl, hb2, hdw⟩
        have hdr2 : w.drawn ≤ w2.drawn := Nat.le_trans hdr hdw
        have hbel2 : Below w.heap.size w w2 := (hbel.trans (hbn2.mono hbel.size)).trans (hb2.mono (by have := hbel.size; simp; omega))
        clear IH2 hdr hdw hb2 hbel hbn hbn2 x0 x1 x2 x3 y0 y1 y2 y3 lg2
        by_cases hr0 : r = 0
        · subst hr0
          have Q3 : Hid (ordL (ks.drop (i + 1)) (ls.drop (i + 1)) = ANS) := Lib.hid (by have := Q2.out; unfold or0 at this; rwa [if_pos rfl] at this)
          clear Q2
          go_wp2
          go_roundg gk'
          case measure => omega
          case rel => exact ⟨i + 1, by go_num, by omega, by omega, by omega, Q3, hbel2, hdr2⟩
        · have hrb : (r == 0) = false := by simpa using hr0
          have hE : r = ANS := by have := Q2.out; unfold or0 at this; rwa [if_neg hr0] at this
          clear Q2 HO HA HB hANS
          subst hE
          go_wp2
          go_ret
          exact ⟨rfl, hbel2, hdr2⟩
      · have hl2z : (lb : Int) ≤ (i : Int) := by omega
        have hE : (1 : Int) = ANS := by
          rw [← hq.out, List.drop_eq_getElem_cons (by omega), List.drop_eq_nil_of_le (show ls.length ≤ i by omega), ordL_end]
        clear hq hANS HO HA HB
        subst hE
        have hbz := hbel.trans (hbn.mono hbel.size)
        clear hbel hbn hd
        go_wp2
        go_ret
        exact ⟨rfl, hbz, hdr⟩
    · have hltz : ¬ (i : Int) < (la : Int) := by omega
      have hE : (if lb = i then (0 : Int) else -1) = ANS := by
        rw [← hq.out, List.drop_eq_nil_of_le (show ks.length ≤ i by omega), ordL_nil, List.length_drop]
        by_cases h : lb = i
        · rw [if_pos h, if_pos (by omega)]
        · rw [if_neg h, if_neg (by omega)]
      obtain rfl : i = la := by omega
      clear hq hANS HO HA HB
      by_cases h : lb = i
      · rw [if_pos h] at hE
        subst hE
        have hz : ¬ (i : Int) < (lb : Int) := by omega
        clear h
        go_wp2
        go_ret
        exact ⟨rfl, hbel, hdr⟩
      · rw [if_neg h] at hE
        have hz : (i : Int) < (lb : Int) := by omega
        clear h
        subst hE
        go_wp2
        go_ret
        exact ⟨rfl, hbel, hdr⟩
end Go.Proofs.YtlnclgpbobaedaaDoor.tmc
