/- Right: the program's. -/
import Derived.Test.YtlnclgpbobaedaaDoorTmX
namespace Go.Proofs.YtlnclgpbobaedaaDoor.tmc
open Go.RowKit Go.Proofs.YtlnclgpbobaedaaDoor.tlvc
set_option linter.unusedVariables false
set_option linter.unusedSimpArgs false
set_option maxRecDepth 100000 in
set_option maxHeartbeats 8000000 in
theorem all_any (C : Nat → Prop) (p : Tm → Bool) (f : FuncId) (cap : Array Value) (ks : List Tm) (A : Option Addr) (la ca : Nat) (w : World) (e1 : ks.length = la) (hA : TmsB C w A ks) (hc1 : la ≤ ca) (hm1 : ca ≤ maxLen)
    (hen : ∀ args w, (callFunc f args).run Tryd.prog w = .ok (.enter f args) w)
    (hf : ∀ k ∈ ks, ∀ (v : Value) (W : World), Below w.heap.size w W → TmV C W k v → Calls Tryd.prog f (#[v] ++ cap) W fun e w' => e = .returned (.bool (p k)) ∧ Below W.heap.size W w') :
    Calls Tryd.prog 51 #[.slice A la ca, .func (.func f) #[] cap] w fun e w' => e = .returned (.bool (ks.all p)) ∧ Below w.heap.size w w' := by
  obtain ⟨ANS, hANS⟩ : ∃ x, ks.all p = x := ⟨_, rfl⟩
  rw [hANS]
  have h9 : ca ≤ 9223372036854775807 := by unfold maxLen at hm1; omega
  have HA := Lib.hid hA
  have HF := Lib.hid hf
  clear hA hf
  go_enter Tryd.func51, Tryd.ntmps51
  go_wp2_with fail
  go_loopg [9] (la + 1) (fun gk s9 wx => ∃ (i : Nat), s9 = .int .i64 i ∧ i ≤ la ∧ la - i < gk ∧ Hid ((ks.drop i).all p = ANS) ∧ Below w.heap.size w wx)
  case atStart => exact ⟨0, rfl, by omega, by omega, Lib.hid hANS, Below.refl _ _⟩
  case round =>
    obtain ⟨i, rfl, hi, hgk, hq, hbel⟩ := hrel
    by_cases hlt : i < la
    · have hltz : (i : Int) < (la : Int) := by omega
      obtain ⟨gk', rfl⟩ : ∃ g', gk = g' + 1 := ⟨gk - 1, by omega⟩
      obtain ⟨g, off, rfl, hg, hBg, hks⟩ := HA.out (by omega)
      obtain ⟨d0, d1, d2, d3, x0, x1, x2, x3, hd⟩ := (KidsC.below hbel hg hBg ks off hks).at i (by omega)
      clear hks
      obtain ⟨to, tm, tA, tla, tca, tK, tlk, tck, q0, q1, q2, q3⟩ := hd.shape
      subst q0 q1 q2 q3
      have hbn := below_new wr (.cells #[.int .i64 to, .int .i64 tm, .slice tA tla tca, .slice tK tlk tck] 26)
      have hbel1 := below_then hbel hbn (Nat.le_refl _)
      have ih := HF.out ks[i] (List.getElem_mem _) (.agg #[.int .i64 to, .int .i64 tm, .slice tA tla tca, .slice tK tlk tck]) (wr.alloc (.cells #[.int .i64 to, .int .i64 tm, .slice tA tla tca, .slice tK tlk tck] 26)) hbel1 ⟨_, _, _, _, rfl, TmC.below hbn _ _ _ _ _ hd⟩
      have hst : (ks.drop i).all p = (p ks[i] && (ks.drop (i + 1)).all p) := by rw [List.drop_eq_getElem_cons (by omega), List.all_cons]
      have hq2 := hq.out
      rw [hst] at hq2
      obtain ⟨r, hr⟩ : ∃ x, p ks[i] = x := ⟨_, rfl⟩
      rw [hr] at ih hq2
      have IH2 := Lib.hid ih
      have Q2 := Lib.hid hq2
      clear ih hq2 hd hr hq hst hbel hbn
      go_wp2_with fail
      refine IH2.out.mono ?_
      rintro e w2 ⟨rfl, hb2⟩
      have hbel2 := below_then hbel1 hb2 (Nat.le_refl _)
      clear IH2 hb2 hbel1 x0 x1 x2 x3
      cases r with
      | true =>
        have Q3 : Hid ((ks.drop (i + 1)).all p = ANS) := Lib.hid (by have := Q2.out; rwa [Bool.true_and] at this)
        clear Q2
        go_wp2
        go_roundg gk'
        case measure => omega
        case rel => exact ⟨i + 1, by go_num, by omega, by omega, Q3, hbel2⟩
      | false =>
        have hE : ANS = false := Q2.out.symm.trans (Bool.false_and _)
        clear Q2 hANS HF HA
        subst hE
        go_wp2
        go_ret
        exact ⟨rfl, hbel2⟩
    · have hltz : ¬ (i : Int) < (la : Int) := by omega
      have hE : ANS = true := by rw [← hq.out, List.drop_eq_nil_of_le (by omega)]; rfl
      clear hq hANS HF HA
      subst hE
      go_wp2
      go_ret
      exact ⟨rfl, hbel⟩
/-- rightWithin's contract at a term. -/
def Rights (k : Tm) : Prop := ∀ (C : Nat → Prop) (v : Value) (outer : Nat) (w : World), outer ≤ 16 → TmV C w k v → Calls Tryd.prog 40 #[v, .int .i64 outer] w fun e w' => e = .returned (.bool (rightF k outer)) ∧ Below w.heap.size w w'
set_option maxRecDepth 100000 in
theorem closure_any (k : Tm) (hk : Rights k) (C : Nat → Prop) (v : Value) (outer p : Nat) (w : World) (ho : outer < 16) (hv : TmV C w k v) (hp : w.cell? ⟨p, 0, none⟩ = some (.int .i64 outer)) (hpl : p < w.heap.size) :
    Calls Tryd.prog 52 #[v, .pointer (some ⟨p, 0, none⟩)] w fun e w' => e = .returned (.bool (rightF k (outer + 1))) ∧ Below w.heap.size w w' := by
  obtain ⟨c0, c1, c2, c3, rfl, hnd⟩ := hv
  obtain ⟨o, m, A, la, ca, K, lk, ck, e0, e1, e2, e3⟩ := hnd.shape
  subst e0 e1 e2 e3
  have hbw := below_new w (.cells #[.int .i64 o, .int .i64 m, .slice A la ca, .slice K lk ck] 26)
  have hc := hk C (.agg #[.int .i64 o, .int .i64 m, .slice A la ca, .slice K lk ck]) (outer + 1) (w.alloc (.cells #[.int .i64 o, .int .i64 m, .slice A la ca, .slice K lk ck] 26)) (by omega) ⟨_, _, _, _, rfl, TmC.below hbw _ _ _ _ _ hnd⟩
  obtain ⟨r, hr⟩ : ∃ x, rightF k (outer + 1) = x := ⟨_, rfl⟩
  rw [hr, Int.natCast_add, show ((1 : Nat) : Int) = 1 from rfl] at hc
  rw [hr]
  have hw : IntKind.i64.wrap ((outer : Int) + 1) = (outer : Int) + 1 := IntWalk.i64_in _ (by omega)
  have HC := Lib.hid hc
  clear hc hr hnd
  go_enter Tryd.func52, Tryd.ntmps52
  go_wp2_with fail
  refine HC.out.mono ?_
  rintro e w2 ⟨rfl, hb2⟩
  have hend := below_then hbw hb2 (by simp)
  clear HC hb2 hbw
  go_wp2
  go_ret
  exact ⟨rfl, hend⟩
set_option maxRecDepth 100000 in
set_option maxHeartbeats 16000000 in
theorem rights_step (o m : Int) (d : List Int) (ks : List Tm) (hk : ∀ k ∈ ks, Rights k) : Rights (.mk o m d ks) := by
  intro C v outer w hou hv
  have hmf : ∀ (fn : Fn) (first cap : Array Value) (w : World), (Instr.makeFunc fn first cap).run Tryd.prog w = .ok (.func fn first cap) w := fun _ _ _ _ => rfl
  obtain ⟨c0, c1, c2, c3, rfl, hnd⟩ := hv
  have hnd0 := hnd
  unfold TmC at hnd
  obtain ⟨rfl, ho, rfl, hm, ⟨A, la, ca, rfl, hA1, hA2, hA3, _⟩, K, ck, rfl, hK1, hK2, hK3⟩ := hnd
  obtain ⟨W0, hW0⟩ : ∃ x, (w.alloc (.cells #[.int .i64 o, .int .i64 m, .slice A la ca, .slice K ks.length ck] 26)).alloc (.cells #[.int .i64 outer] 3) = x := ⟨_, rfl⟩
  have hz : w.heap.size + 2 ≤ W0.heap.size := by rw [← hW0]; simp
  have hbw : Below w.heap.size w W0 := by rw [← hW0]; exact (below_new _ _).alloc (by simp) _
  have p0 : W0.heap[w.heap.size]? = some (.cells #[.int .i64 o, .int .i64 m, .slice A la ca, .slice K ks.length ck] 26) := by rw [← hW0, heap_old_ _ _ (by simp)]; exact heap_new_ _ _
  have p1 : W0.heap[w.heap.size + 1]? = some (.cells #[.int .i64 outer] 3) := by
    rw [← hW0]
    have := heap_new_ (w.alloc (.cells #[.int .i64 o, .int .i64 m, .slice A la ca, .slice K ks.length ck] 26)) (.cells #[.int .i64 outer] 3)
    rwa [show (w.alloc (.cells #[.int .i64 o, .int .i64 m, .slice A la ca, .slice K ks.length ck] 26)).heap.size = w.heap.size + 1 by simp] at this
  obtain ⟨a0, a1, a2, a3⟩ := box4 (Below.refl W0.heap.size W0) p0 (by omega)
  have hcell : ∀ W, Below W0.heap.size W0 W → W.cell? ⟨w.heap.size + 1, 0, none⟩ = some (.int .i64 outer) := fun W hW => by
    have h := (hW.block (w.heap.size + 1) (by omega)).trans p1
    rw [Lib.cell_of_heap h]; rfl
  have hbx : ∀ W, Below W0.heap.size W0 W → W.cell? ⟨w.heap.size, 3, none⟩ = some (.slice K ks.length ck) := fun W hW => (box4 hW p0 (by omega)).2.2.2
  have hal := rightAlone_any C o m d ks (.agg #[.int .i64 o, .int .i64 m, .slice A la ca, .slice K ks.length ck]) W0 ⟨_, _, _, _, rfl, TmC.below hbw _ _ _ _ _ hnd0⟩
  have hso : ∀ W, Below W0.heap.size W0 W → Calls Tryd.prog 53 #[.slice K ks.length ck, .func (.func 46) #[] #[]] W fun e w' => e = .returned (.bool (sortedL ks)) ∧ Below W.heap.size W w' := fun W hW => sorted_any C ks K ks.length ck W rfl (TmsB.below hK3 (hbw.trans (hW.mono hbw.size))) hK1 hK2
  have hall : outer < 16 → ∀ W, Below W0.heap.size W0 W → Calls Tryd.prog 51 #[.slice K ks.length ck, .func (.func 52) #[] #[.pointer (some ⟨w.heap.size + 1, 0, none⟩)]] W fun e w' => e = .returned (.bool (rightL ks (outer + 1))) ∧ Below W.heap.size W w' := fun hlt W hW => by
    rw [rightL_all]
    exact all_any C (fun k => rightF k (outer + 1)) 52 #[.pointer (some ⟨w.heap.size + 1, 0, none⟩)] ks K ks.length ck W rfl (TmsB.below hK3 (hbw.trans (hW.mono hbw.size))) hK1 hK2 (enters_of Tryd.func52 (by kernel_rfl) rfl)
      (fun k hkm v W2 hW2 hv2 => closure_any k (hk k hkm) C v outer (w.heap.size + 1) W2 hlt hv2 (hcell _ (below_then hW hW2 (Nat.le_refl _))) (by have := hW.size; have := hW2.size; omega))
  have hres : rightF (.mk o m d ks) outer = (decide (outer < 16) && aloneB o m d.length ks.length && rightL ks (outer + 1) && sortedL ks) := by conv => lhs; unfold rightF
  rw [hres]
  obtain ⟨ra, hra⟩ : ∃ x, aloneB o m d.length ks.length = x := ⟨_, rfl⟩
  obtain ⟨rk, hrk⟩ : ∃ x, rightL ks (outer + 1) = x := ⟨_, rfl⟩
  obtain ⟨rs, hrs⟩ : ∃ x, sortedL ks = x := ⟨_, rfl⟩
  rw [hra] at hal ⊢
  rw [hrk] at hall ⊢
  rw [hrs] at hso ⊢
  have HAL := Lib.hid hal
  have HALL := Lib.hid hall
  have HSO := Lib.hid hso
  have HBX := Lib.hid hbx
  have HC := Lib.hid hcell
  have HBW := Lib.hid hbw
  obtain ⟨lk, hlk⟩ : ∃ x, ks.length = x := ⟨_, rfl⟩
  rw [hlk] at hW0 a3 HSO HALL HBX HAL ⊢
  have c0 := hcell _ (Below.refl _ _)
  clear hal hall hso hbx hcell hbw hra hrk hrs hres hk hnd0 hA3 hK3 hlk p0 p1 hz
  by_cases hlt : outer < 16
  · rw [decide_eq_true hlt, Bool.true_and]
    have hltz : ¬ (16 : Int) ≤ (outer : Int) := by omega
    obtain ⟨RES, hRES⟩ : ∃ x, (ra && rk && rs) = x := ⟨_, rfl⟩
    rw [hRES]
    have HR := Lib.hid hRES
    clear hRES
    go_enter Tryd.func40, Tryd.ntmps40
    go_wp2_with fail
    refine HAL.out.mono ?_
    rintro e w1 ⟨rfl, hb1⟩
    have f3 := HBX.out _ hb1
    clear HAL a0 a1 a2 a3 c0 hW0
    cases ra with
    | false =>
      have hend := HBW.out.trans (hb1.mono HBW.out.size)
      have hE : RES = false := HR.out.symm
      clear HALL HSO HBX HC HBW HR
      subst hE
      go_wp2
      go_ret
      exact ⟨rfl, hend⟩
    | true =>
      have HALW := Lib.hid (HALL.out hlt _ hb1)
      clear HALL
      go_wp2_with fail
      refine HALW.out.mono ?_
      rintro e w2 ⟨rfl, hb2⟩
      have hB2 := below_then hb1 hb2 (Nat.le_refl _)
      have g3 := HBX.out _ hB2
      clear HALW f3 hb1 hb2
      cases rk with
      | false =>
        have hend := HBW.out.trans (hB2.mono HBW.out.size)
        have hE : RES = false := HR.out.symm
        clear HSO HBX HC HBW HR
        subst hE
        go_wp2
        go_ret
        exact ⟨rfl, hend⟩
      | true =>
        have HSW := Lib.hid (HSO.out _ hB2)
        clear HSO
        go_wp2_with fail
        refine HSW.out.mono ?_
        rintro e w3 ⟨rfl, hb3⟩
        have hend := HBW.out.trans ((below_then hB2 hb3 (Nat.le_refl _)).mono HBW.out.size)
        have hE : RES = rs := HR.out.symm
        clear HSW HBX HC HBW hB2 hb3 HR
        subst hE
        go_wp2
        go_ret
        exact ⟨rfl, hend⟩
  · have hltz : (16 : Int) ≤ (outer : Int) := by omega
    rw [decide_eq_false hlt, Bool.false_and, Bool.false_and, Bool.false_and]
    clear HAL HALL HSO HBX HC
    go_enter Tryd.func40, Tryd.ntmps40
    go_wp2
    go_ret
    exact ⟨rfl, HBW.out⟩
theorem rights_all : ∀ (N : Nat) (n : Tm), szT n ≤ N → Rights n
  | 0, .mk _ _ _ ks, h => by unfold szT at h; omega
  | N + 1, .mk o m d ks, h => rights_step o m d ks (fun k hk => rights_all N k (by unfold szT at h; have := szTs_mem hk; omega))
set_option maxRecDepth 100000 in
theorem right_any (k : Tm) (C : Nat → Prop) (v : Value) (w : World) (hv : TmV C w k v) :
    Calls Tryd.prog 30 #[v] w fun e w' => e = .returned (.bool (rightF k 0)) ∧ Below w.heap.size w w' := by
  obtain ⟨c0, c1, c2, c3, rfl, hnd⟩ := hv
  obtain ⟨o, m, A, la, ca, K, lk, ck, e0, e1, e2, e3⟩ := hnd.shape
  subst e0 e1 e2 e3
  have hbw := below_new w (.cells #[.int .i64 o, .int .i64 m, .slice A la ca, .slice K lk ck] 26)
  have hc := rights_all _ k (Nat.le_refl _) C (.agg #[.int .i64 o, .int .i64 m, .slice A la ca, .slice K lk ck]) 0 (w.alloc (.cells #[.int .i64 o, .int .i64 m, .slice A la ca, .slice K lk ck] 26)) (by omega) ⟨_, _, _, _, rfl, TmC.below hbw _ _ _ _ _ hnd⟩
  obtain ⟨r, hr⟩ : ∃ x, rightF k 0 = x := ⟨_, rfl⟩
  rw [hr] at hc ⊢
  rw [show ((0 : Nat) : Int) = 0 from rfl] at hc
  have HC := Lib.hid hc
  clear hc hr hnd
  go_enter Tryd.func30, Tryd.ntmps30
  go_wp2_with fail
  refine HC.out.mono ?_
  rintro e w2 ⟨rfl, hb2⟩
  have hend := below_then hbw hb2 (by simp)
  clear HC hb2 hbw
  go_wp2
  go_ret
  exact ⟨rfl, hend⟩
end Go.Proofs.YtlnclgpbobaedaaDoor.tmc
