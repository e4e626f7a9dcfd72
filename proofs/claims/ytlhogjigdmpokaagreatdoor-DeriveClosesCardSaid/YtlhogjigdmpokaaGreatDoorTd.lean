/- rightAlone and the document's kids. Right: the program's. The document's Order. How many terms one is: the program's Size and the document's. -/
import Derived.Test.YtlhogjigdmpokaaGreatDoorTc
import Derived.Test.YtlhogjigdmpokaaGreatDoorTb
import Derived.WalkLawsBesides
namespace Go.Proofs.YtlhogjigdmpokaaGreatDoor.tmc
open Go.RowKit Go.Proofs.YtlhogjigdmpokaaGreatDoor.tlvc
set_option linter.unusedVariables false
set_option linter.unusedSimpArgs false
theorem below_drewN {B : Nat} {w w' : World} (h : Below B w w') (q : Nat) : Below B w (w'.drewN q) := ⟨h.os, h.tape, h.output, h.size, h.block⟩
theorem ret_b {a b : Bool} (h : a = b) : Ending.returned (.bool a) = .returned (.bool b) := by rw [h]
set_option maxRecDepth 100000 in
set_option maxHeartbeats 8000000 in
theorem rightAlone_any (C : Nat → Prop) (o m : Int) (d : List Int) (ks : List Tm) (v : Value) (w : World) (hv : TmV C w (.mk o m d ks) v) :
    Calls Tryz.prog 82 #[v] w fun e w' => e = .returned (.bool (aloneB o m d.length ks.length)) ∧ Below w.heap.size w w' := by
  obtain ⟨c0, c1, c2, c3, rfl, hc⟩ := hv
  unfold TmC at hc
  obtain ⟨rfl, ho, rfl, hm, ⟨A, la, ca, rfl, hA1, hA2, hA3, _⟩, K, ck, rfl, hK1, hK2, hK3⟩ := hc
  have hl := hA3.1
  rw [hl]
  obtain ⟨lk, hlk⟩ : ∃ x, ks.length = x := ⟨_, rfl⟩
  rw [hlk] at hK1 ⊢
  obtain ⟨W0, hW0⟩ : ∃ x, w.alloc (.cells #[.int .i64 o, .int .i64 m, .slice A la ca, .slice K lk ck] 43) = x := ⟨_, rfl⟩
  have hbw : Below w.heap.size w W0 := by rw [← hW0]; exact below_new _ _
  have q0 : W0.heap[w.heap.size]? = some (.cells #[.int .i64 o, .int .i64 m, .slice A la ca, .slice K lk ck] 43) := by rw [← hW0]; exact heap_new_ _ _
  have hbz : w.heap.size < W0.heap.size := by rw [← hW0]; simp
  obtain ⟨x0, x1, x2, x3⟩ := box4 (Below.refl W0.heap.size W0) q0 hbz
  clear hA3 hK3 hl hlk q0
  unfold maxLen at hK2 hA2
  have fin : ∀ (b : Bool) (P : Prop) [Decidable P], (b = true ↔ P) → b = decide P := fun b P _ h => by rw [Bool.eq_iff_iff, h, decide_eq_true_iff]
  have no : ∀ {b : Bool}, b = false → b = false := fun h => h
  by_cases h1 : o = 1
  · subst h1
    obtain ⟨RES, hRES⟩ : ∃ x, aloneB 1 m la lk = x := ⟨_, rfl⟩
    have hR : decide (lk = 0 ∧ la = 0 ∧ 0 ≤ m ∧ m ≤ 1099511627776) = RES := hRES
    rw [hRES]
    have HR := Lib.hid hR
    clear hR hRES
    go_enter Tryz.func82, Tryz.ntmps82
    go_wp2_with fail
    go_quiet (fail)
    go_wp2
    all_goals
      go_ret
      refine ⟨ret_b ?_, below_drewN hbw _⟩
      rw [← HR.out]
      refine fin _ _ ?_
      simp
      try omega
  by_cases h2 : o = 2
  · subst h2
    obtain ⟨RES, hRES⟩ : ∃ x, aloneB 2 m la lk = x := ⟨_, rfl⟩
    have hR : decide (lk = 1 ∧ la = 0 ∧ m = 0) = RES := hRES
    rw [hRES]
    have HR := Lib.hid hR
    clear hR hRES
    go_enter Tryz.func82, Tryz.ntmps82
    go_wp2_with fail
    go_quiet (fail)
    go_wp2
    all_goals
      go_ret
      refine ⟨ret_b ?_, below_drewN hbw _⟩
      rw [← HR.out]
      refine fin _ _ ?_
      simp
      try omega
  by_cases h3 : o = 3
  · subst h3
    obtain ⟨RES, hRES⟩ : ∃ x, aloneB 3 m la lk = x := ⟨_, rfl⟩
    have hR : decide (lk = 1 ∧ la ≤ 8192 ∧ m = 0) = RES := hRES
    rw [hRES]
    have HR := Lib.hid hR
    clear hR hRES
    go_enter Tryz.func82, Tryz.ntmps82
    go_wp2_with fail
    go_quiet (fail)
    go_wp2
    all_goals
      go_ret
      refine ⟨ret_b ?_, below_drewN hbw _⟩
      rw [← HR.out]
      refine fin _ _ ?_
      simp
      try omega
  by_cases h4 : o = 4
  · subst h4
    obtain ⟨RES, hRES⟩ : ∃ x, aloneB 4 m la lk = x := ⟨_, rfl⟩
    have hR : decide (lk = 1 ∧ la ≤ 8192 ∧ m = 0) = RES := hRES
    rw [hRES]
    have HR := Lib.hid hR
    clear hR hRES
    go_enter Tryz.func82, Tryz.ntmps82
    go_wp2_with fail
    go_quiet (fail)
    go_wp2
    all_goals
      go_ret
      refine ⟨ret_b ?_, below_drewN hbw _⟩
      rw [← HR.out]
      refine fin _ _ ?_
      simp
      try omega
  by_cases h6 : o = 6
  · subst h6
    obtain ⟨RES, hRES⟩ : ∃ x, aloneB 6 m la lk = x := ⟨_, rfl⟩
    have hR : decide (lk = 1 ∧ la ≤ 8192 ∧ m = 0) = RES := hRES
    rw [hRES]
    have HR := Lib.hid hR
    clear hR hRES
    go_enter Tryz.func82, Tryz.ntmps82
    go_wp2_with fail
    go_quiet (fail)
    go_wp2
    all_goals
      go_ret
      refine ⟨ret_b ?_, below_drewN hbw _⟩
      rw [← HR.out]
      refine fin _ _ ?_
      simp
      try omega
  by_cases h5 : o = 5
  · subst h5
    obtain ⟨RES, hRES⟩ : ∃ x, aloneB 5 m la lk = x := ⟨_, rfl⟩
    have hR : decide (lk = 0 ∧ la ≤ 8192 ∧ m = 0) = RES := hRES
    rw [hRES]
    have HR := Lib.hid hR
    clear hR hRES
    go_enter Tryz.func82, Tryz.ntmps82
    go_wp2_with fail
    go_quiet (fail)
    go_wp2
    all_goals
      go_ret
      refine ⟨ret_b ?_, below_drewN hbw _⟩
      rw [← HR.out]
      refine fin _ _ ?_
      simp
      try omega
  by_cases h7 : o = 7
  · subst h7
    obtain ⟨RES, hRES⟩ : ∃ x, aloneB 7 m la lk = x := ⟨_, rfl⟩
    have hR : decide (lk ≤ 4 ∧ la = 0 ∧ m = 0) = RES := hRES
    rw [hRES]
    have HR := Lib.hid hR
    clear hR hRES
    go_enter Tryz.func82, Tryz.ntmps82
    go_wp2_with fail
    go_quiet (fail)
    go_wp2
    all_goals
      go_ret
      refine ⟨ret_b ?_, below_drewN hbw _⟩
      rw [← HR.out]
      refine fin _ _ ?_
      simp
      try omega
  have hE : aloneB o m la lk = false := by
    unfold aloneB
    rw [if_neg h1, if_neg h2, if_neg (by omega), if_neg h5, if_neg h7]
  rw [hE]
  have b1 : (o == 1) = false := by simpa using h1
  have b2 : (o == 2) = false := by simpa using h2
  have b3 : (o == 3) = false := by simpa using h3
  have b4 : (o == 4) = false := by simpa using h4
  have b6 : (o == 6) = false := by simpa using h6
  have b5 : (o == 5) = false := by simpa using h5
  have b7 : (o == 7) = false := by simpa using h7
  clear hE
  go_enter Tryz.func82, Tryz.ntmps82
  go_wp2_with fail
  go_quiet (fail)
  go_wp2
  go_ret
  exact ⟨rfl, below_drewN hbw _⟩
/-- May a term have as many kids? -/
def kidsB (o : Int) (k : Nat) : Bool := if o = 1 ∨ o = 5 then decide (k = 0) else if o = 2 ∨ o = 3 ∨ o = 4 ∨ o = 6 then decide (k = 1) else if o = 7 then decide (k ≤ 4) else false
set_option maxRecDepth 100000 in
set_option maxHeartbeats 8000000 in
theorem refKids_any (C : Nat → Prop) (o m : Int) (d : List Int) (ks : List Tm) (v : Value) (w : World) (hv : TmV C w (.mk o m d ks) v) :
    Calls Tryz.prog 93 #[v] w fun e w' => e = .returned (.bool (kidsB o ks.length)) ∧ Below w.heap.size w w' := by
  obtain ⟨c0, c1, c2, c3, rfl, hc⟩ := hv
  unfold TmC at hc
  obtain ⟨rfl, ho, rfl, hm, ⟨A, la, ca, rfl, hA1, hA2, hA3, _⟩, K, ck, rfl, hK1, hK2, hK3⟩ := hc
  obtain ⟨lk, hlk⟩ : ∃ x, ks.length = x := ⟨_, rfl⟩
  rw [hlk] at hK1 ⊢
  have hbw := below_new w (.cells #[.int .i64 o, .int .i64 m, .slice A la ca, .slice K lk ck] 43)
  clear hA3 hK3 hlk
  unfold maxLen at hK2 hA2
  have fin : ∀ (b : Bool) (P : Prop) [Decidable P], (b = true ↔ P) → b = decide P := fun b P _ h => by rw [Bool.eq_iff_iff, h, decide_eq_true_iff]
  by_cases h1 : o = 1
  · subst h1
    obtain ⟨RES, hRES⟩ : ∃ x, kidsB 1 lk = x := ⟨_, rfl⟩
    have hR : decide (lk = 0) = RES := hRES
    rw [hRES]
    have HR := Lib.hid hR
    clear hR hRES
    go_enter Tryz.func93, Tryz.ntmps93
    go_wp2
    all_goals
      go_ret
      refine ⟨ret_b ?_, hbw⟩
      rw [← HR.out]
      refine fin _ _ ?_
      simp
      try omega
  by_cases h5 : o = 5
  · subst h5
    obtain ⟨RES, hRES⟩ : ∃ x, kidsB 5 lk = x := ⟨_, rfl⟩
    have hR : decide (lk = 0) = RES := hRES
    rw [hRES]
    have HR := Lib.hid hR
    clear hR hRES
    go_enter Tryz.func93, Tryz.ntmps93
    go_wp2
    all_goals
      go_ret
      refine ⟨ret_b ?_, hbw⟩
      rw [← HR.out]
      refine fin _ _ ?_
      simp
      try omega
  by_cases h2 : o = 2
  · subst h2
    obtain ⟨RES, hRES⟩ : ∃ x, kidsB 2 lk = x := ⟨_, rfl⟩
    have hR : decide (lk = 1) = RES := hRES
    rw [hRES]
    have HR := Lib.hid hR
    clear hR hRES
    go_enter Tryz.func93, Tryz.ntmps93
    go_wp2
    all_goals
      go_ret
      refine ⟨ret_b ?_, hbw⟩
      rw [← HR.out]
      refine fin _ _ ?_
      simp
      try omega
  by_cases h3 : o = 3
  · subst h3
    obtain ⟨RES, hRES⟩ : ∃ x, kidsB 3 lk = x := ⟨_, rfl⟩
    have hR : decide (lk = 1) = RES := hRES
    rw [hRES]
    have HR := Lib.hid hR
    clear hR hRES
    go_enter Tryz.func93, Tryz.ntmps93
    go_wp2
    all_goals
      go_ret
      refine ⟨ret_b ?_, hbw⟩
      rw [← HR.out]
      refine fin _ _ ?_
      simp
      try omega
  by_cases h4 : o = 4
  · subst h4
    obtain ⟨RES, hRES⟩ : ∃ x, kidsB 4 lk = x := ⟨_, rfl⟩
    have hR : decide (lk = 1) = RES := hRES
    rw [hRES]
    have HR := Lib.hid hR
    clear hR hRES
    go_enter Tryz.func93, Tryz.ntmps93
    go_wp2
    all_goals
      go_ret
      refine ⟨ret_b ?_, hbw⟩
      rw [← HR.out]
      refine fin _ _ ?_
      simp
      try omega
  by_cases h6 : o = 6
  · subst h6
    obtain ⟨RES, hRES⟩ : ∃ x, kidsB 6 lk = x := ⟨_, rfl⟩
    have hR : decide (lk = 1) = RES := hRES
    rw [hRES]
    have HR := Lib.hid hR
    clear hR hRES
    go_enter Tryz.func93, Tryz.ntmps93
    go_wp2
    all_goals
      go_ret
      refine ⟨ret_b ?_, hbw⟩
      rw [← HR.out]
      refine fin _ _ ?_
      simp
      try omega
  by_cases h7 : o = 7
  · subst h7
    obtain ⟨RES, hRES⟩ : ∃ x, kidsB 7 lk = x := ⟨_, rfl⟩
    have hR : decide (lk ≤ 4) = RES := hRES
    rw [hRES]
    have HR := Lib.hid hR
    clear hR hRES
    go_enter Tryz.func93, Tryz.ntmps93
    go_wp2
    all_goals
      go_ret
      refine ⟨ret_b ?_, hbw⟩
      rw [← HR.out]
      refine fin _ _ ?_
      simp
      try omega
  have hE : kidsB o lk = false := by
    unfold kidsB
    rw [if_neg (by omega), if_neg (by omega), if_neg h7]
  rw [hE]
  have b1 : (o == 1) = false := by simpa using h1
  have b5 : (o == 5) = false := by simpa using h5
  have b2 : (o == 2) = false := by simpa using h2
  have b3 : (o == 3) = false := by simpa using h3
  have b4 : (o == 4) = false := by simpa using h4
  have b6 : (o == 6) = false := by simpa using h6
  have b7 : (o == 7) = false := by simpa using h7
  clear hE
  go_enter Tryz.func93, Tryz.ntmps93
  go_wp2
  go_ret
  exact ⟨rfl, hbw⟩
end Go.Proofs.YtlhogjigdmpokaaGreatDoor.tmc
namespace Go.Proofs.YtlhogjigdmpokaaGreatDoor.tmc
open Go.RowKit Go.Proofs.YtlhogjigdmpokaaGreatDoor.tlvc
set_option linter.unusedVariables false
set_option linter.unusedSimpArgs false
set_option maxRecDepth 100000 in
set_option maxHeartbeats 8000000 in
theorem all_any (C : Nat → Prop) (p : Tm → Bool) (f : FuncId) (cap : Array Value) (ks : List Tm) (A : Option Addr) (la ca : Nat) (w : World) (e1 : ks.length = la) (hA : TmsB C w A ks) (hc1 : la ≤ ca) (hm1 : ca ≤ maxLen)
    (hen : ∀ args w, (callFunc f args).run Tryz.prog w = .ok (.enter f args) w)
    (hf : ∀ k ∈ ks, ∀ (v : Value) (W : World), Below w.heap.size w W → TmV C W k v → Calls Tryz.prog f (#[v] ++ cap) W fun e w' => e = .returned (.bool (p k)) ∧ Below W.heap.size W w') :
    Calls Tryz.prog 83 #[.slice A la ca, .func (.func f) #[] cap] w fun e w' => e = .returned (.bool (ks.all p)) ∧ Below w.heap.size w w' := by
  obtain ⟨ANS, hANS⟩ : ∃ x, ks.all p = x := ⟨_, rfl⟩
  rw [hANS]
  have h9 : ca ≤ 9223372036854775807 := by unfold maxLen at hm1; omega
  have HA := Lib.hid hA
  have HF := Lib.hid hf
  clear hA hf
  go_enter Tryz.func83, Tryz.ntmps83
  go_wp2_with fail
  go_loopg [9] (la + 1) (fun gk s9 wx => ∃ (i : Nat), s9 = .int .i64 i ∧ i ≤ la ∧ la - i < gk ∧ Hid ((ks.drop i).all p = ANS) ∧ Below w.heap.size w wx)
  case atStart => exact ⟨0, rfl, by omega, by omega, Lib.hid hANS, Below.refl _ _⟩
  case round =>
    obtain ⟨i, rfl, hi, hgk, hq, hbel⟩ := hrel
    by_cases hlt : i < la
    · have hltz : (i : Int) < (la : Int) := by omega
      obtain ⟨gk', rfl⟩ : ∃ g', gk = g' + 1 := ⟨gk - 1, by omega⟩
      obtain ⟨g, off, rfl, hg, hBg, hks⟩ := HA.out (by omega)
      obtain ⟨d0, d1, d2, d3, x0, x1, x2, x3, hd⟩ := (KidsC.below hbel hg hBg ks off hks).at i (by omega)
      clear hks
      obtain ⟨to, tm, tA, tla, tca, tK, tlk, tck, q0, q1, q2, q3⟩ := hd.shape
      subst q0 q1 q2 q3
      have hbn := below_new wr (.cells #[.int .i64 to, .int .i64 tm, .slice tA tla tca, .slice tK tlk tck] 43)
      have hbel1 := below_then hbel hbn (Nat.le_refl _)
      have ih := HF.out ks[i] (List.getElem_mem _) (.agg #[.int .i64 to, .int .i64 tm, .slice tA tla tca, .slice tK tlk tck]) (wr.alloc (.cells #[.int .i64 to, .int .i64 tm, .slice tA tla tca, .slice tK tlk tck] 43)) hbel1 ⟨_, _, _, _, rfl, TmC.below hbn _ _ _ _ _ hd⟩
      have hst : (ks.drop i).all p = (p ks[i] && (ks.drop (i + 1)).all p) := by rw [List.drop_eq_getElem_cons (by omega), List.all_cons]
      have hq2 := hq.out
      rw [hst] at hq2
      obtain ⟨r, hr⟩ : ∃ x, p ks[i] = x := ⟨_, rfl⟩
      rw [hr] at ih hq2
      have IH2 := Lib.hid ih
      have Q2 := Lib.hid hq2
      clear ih hq2 hd hr hq hst hbel hbn
      go_wp2_with fail
      refine IH2.out.mono ?_
      rintro e w2 ⟨rfl, hb2⟩
      have hbel2 := below_then hbel1 hb2 (Nat.le_refl _)
      clear IH2 hb2 hbel1 x0 x1 x2 x3
      cases r with
      | true =>
        have Q3 : Hid ((ks.drop (i + 1)).all p = ANS) := Lib.hid (by have := Q2.out; rwa [Bool.true_and] at this)
        clear Q2
        go_wp2
        go_roundg gk'
        case measure => omega
        case rel => exact ⟨i + 1, by go_num, by omega, by omega, Q3, hbel2⟩
      | false =>
        have hE : ANS = false := Q2.out.symm.trans (Bool.false_and _)
        clear Q2 hANS HF HA
        subst hE
        go_wp2
        go_ret
        exact ⟨rfl, hbel2⟩
    · have hltz : ¬ (i : Int) < (la : Int) := by omega
      have hE : ANS = true := by rw [← hq.out, List.drop_eq_nil_of_le (by omega)]; rfl
      clear hq hANS HF HA
      subst hE
      go_wp2
      go_ret
      exact ⟨rfl, hbel⟩
/-- rightWithin's contract at a term. -/
def Rights (k : Tm) : Prop := ∀ (C : Nat → Prop) (v : Value) (outer : Nat) (w : World), outer ≤ 16 → TmV C w k v → Calls Tryz.prog 65 #[v, .int .i64 outer] w fun e w' => e = .returned (.bool (rightF k outer)) ∧ Below w.heap.size w w'
set_option maxRecDepth 100000 in
theorem closure_any (k : Tm) (hk : Rights k) (C : Nat → Prop) (v : Value) (outer p : Nat) (w : World) (ho : outer < 16) (hv : TmV C w k v) (hp : w.cell? ⟨p, 0, none⟩ = some (.int .i64 outer)) (hpl : p < w.heap.size) :
    Calls Tryz.prog 84 #[v, .pointer (some ⟨p, 0, none⟩)] w fun e w' => e = .returned (.bool (rightF k (outer + 1))) ∧ Below w.heap.size w w' := by
  obtain ⟨c0, c1, c2, c3, rfl, hnd⟩ := hv
  obtain ⟨o, m, A, la, ca, K, lk, ck, e0, e1, e2, e3⟩ := hnd.shape
  subst e0 e1 e2 e3
  have hbw := below_new w (.cells #[.int .i64 o, .int .i64 m, .slice A la ca, .slice K lk ck] 43)
  have hc := hk C (.agg #[.int .i64 o, .int .i64 m, .slice A la ca, .slice K lk ck]) (outer + 1) (w.alloc (.cells #[.int .i64 o, .int .i64 m, .slice A la ca, .slice K lk ck] 43)) (by omega) ⟨_, _, _, _, rfl, TmC.below hbw _ _ _ _ _ hnd⟩
  obtain ⟨r, hr⟩ : ∃ x, rightF k (outer + 1) = x := ⟨_, rfl⟩
  rw [hr, Int.natCast_add, show ((1 : Nat) : Int) = 1 from rfl] at hc
  rw [hr]
  have hw : IntKind.i64.wrap ((outer : Int) + 1) = (outer : Int) + 1 := IntWalk.i64_in _ (by omega)
  have HC := Lib.hid hc
  clear hc hr hnd
  go_enter Tryz.func84, Tryz.ntmps84
  go_wp2_with fail
  refine HC.out.mono ?_
  rintro e w2 ⟨rfl, hb2⟩
  have hend := below_then hbw hb2 (by simp)
  clear HC hb2 hbw
  go_wp2
  go_ret
  exact ⟨rfl, hend⟩
set_option maxRecDepth 100000 in
set_option maxHeartbeats 16000000 in
theorem rights_step (o m : Int) (d : List Int) (ks : List Tm) (hk : ∀ k ∈ ks, Rights k) : Rights (.mk o m d ks) := by
  intro C v outer w hou hv
  have hmf : ∀ (fn : Fn) (first cap : Array Value) (w : World), (Instr.makeFunc fn first cap).run Tryz.prog w = .ok (.func fn first cap) w := fun _ _ _ _ => rfl
  obtain ⟨c0, c1, c2, c3, rfl, hnd⟩ := hv
  have hnd0 := hnd
  unfold TmC at hnd
  obtain ⟨rfl, ho, rfl, hm, ⟨A, la, ca, rfl, hA1, hA2, hA3, _⟩, K, ck, rfl, hK1, hK2, hK3⟩ := hnd
  obtain ⟨W0, hW0⟩ : ∃ x, (w.alloc (.cells #[.int .i64 o, .int .i64 m, .slice A la ca, .slice K ks.length ck] 43)).alloc (.cells #[.int .i64 outer] 3) = x := ⟨_, rfl⟩
  have hz : w.heap.size + 2 ≤ W0.heap.size := by rw [← hW0]; simp
  have hbw : Below w.heap.size w W0 := by rw [← hW0]; exact (below_new _ _).alloc (by simp) _
  have p0 : W0.heap[w.heap.size]? = some (.cells #[.int .i64 o, .int .i64 m, .slice A la ca, .slice K ks.length ck] 43) := by rw [← hW0, heap_old_ _ _ (by simp)]; exact heap_new_ _ _
  have p1 : W0.heap[w.heap.size + 1]? = some (.cells #[.int .i64 outer] 3) := by
    rw [← hW0]
    have := heap_new_ (w.alloc (.cells #[.int .i64 o, .int .i64 m, .slice A la ca, .slice K ks.length ck] 43)) (.cells #[.int .i64 outer] 3)
    rwa [show (w.alloc (.cells #[.int .i64 o, .int .i64 m, .slice A la ca, .slice K ks.length ck] 43)).heap.size = w.heap.size + 1 by simp] at this
  obtain ⟨a0, a1, a2, a3⟩ := box4 (Below.refl W0.heap.size W0) p0 (by omega)
  have hcell : ∀ W, Below W0.heap.size W0 W → W.cell? ⟨w.heap.size + 1, 0, none⟩ = some (.int .i64 outer) := fun W hW => by
    have h := (hW.block (w.heap.size + 1) (by omega)).trans p1
    rw [Lib.cell_of_heap h]; rfl
  have hbx : ∀ W, Below W0.heap.size W0 W → W.cell? ⟨w.heap.size, 3, none⟩ = some (.slice K ks.length ck) := fun W hW => (box4 hW p0 (by omega)).2.2.2
  have hal := rightAlone_any C o m d ks (.agg #[.int .i64 o, .int .i64 m, .slice A la ca, .slice K ks.length ck]) W0 ⟨_, _, _, _, rfl, TmC.below hbw _ _ _ _ _ hnd0⟩
  have hso : ∀ W, Below W0.heap.size W0 W → Calls Tryz.prog 85 #[.slice K ks.length ck, .func (.func 70) #[] #[]] W fun e w' => e = .returned (.bool (sortedL ks)) ∧ Below W.heap.size W w' := fun W hW => sorted_any C ks K ks.length ck W rfl (TmsB.below hK3 (hbw.trans (hW.mono hbw.size))) hK1 hK2
  have hall : outer < 16 → ∀ W, Below W0.heap.size W0 W → Calls Tryz.prog 83 #[.slice K ks.length ck, .func (.func 84) #[] #[.pointer (some ⟨w.heap.size + 1, 0, none⟩)]] W fun e w' => e = .returned (.bool (rightL ks (outer + 1))) ∧ Below W.heap.size W w' := fun hlt W hW => by
    rw [rightL_all]
    exact all_any C (fun k => rightF k (outer + 1)) 84 #[.pointer (some ⟨w.heap.size + 1, 0, none⟩)] ks K ks.length ck W rfl (TmsB.below hK3 (hbw.trans (hW.mono hbw.size))) hK1 hK2 (enters_of Tryz.func84 (by kernel_rfl) rfl)
      (fun k hkm v W2 hW2 hv2 => closure_any k (hk k hkm) C v outer (w.heap.size + 1) W2 hlt hv2 (hcell _ (below_then hW hW2 (Nat.le_refl _))) (by have := hW.size; have := hW2.size; omega))
  have hres : rightF (.mk o m d ks) outer = (decide (outer < 16) && aloneB o m d.length ks.length && rightL ks (outer + 1) && sortedL ks) := by conv => lhs; unfold rightF
  rw [hres]
  obtain ⟨ra, hra⟩ : ∃ x, aloneB o m d.length ks.length = x := ⟨_, rfl⟩
  obtain ⟨rk, hrk⟩ : ∃ x, rightL ks (outer + 1) = x := ⟨_, rfl⟩
  obtain ⟨rs, hrs⟩ : ∃ x, sortedL ks = x := ⟨_, rfl⟩
  rw [hra] at hal ⊢
  rw [hrk] at hall ⊢
  rw [hrs] at hso ⊢
  have HAL := Lib.hid hal
  have HALL := Lib.hid hall
  have HSO := Lib.hid hso
  have HBX := Lib.hid hbx
  have HC := Lib.hid hcell
  have HBW := Lib.hid hbw
  obtain ⟨lk, hlk⟩ : ∃ x, ks.length = x := ⟨_, rfl⟩
  rw [hlk] at hW0 a3 HSO HALL HBX HAL ⊢
  have c0 := hcell _ (Below.refl _ _)
  clear hal hall hso hbx hcell hbw hra hrk hrs hres hk hnd0 hA3 hK3 hlk p0 p1 hz
  by_cases hlt : outer < 16
  · rw [decide_eq_true hlt, Bool.true_and]
    have hltz : ¬ (16 : Int) ≤ (outer : Int) := by omega
    obtain ⟨RES, hRES⟩ : ∃ x, (ra && rk && rs) = x := ⟨_, rfl⟩
    rw [hRES]
    have HR := Lib.hid hRES
    clear hRES
    go_enter Tryz.func65, Tryz.ntmps65
    go_wp2_with fail
    refine HAL.out.mono ?_
    rintro e w1 ⟨rfl, hb1⟩
    have f3 := HBX.out _ hb1
    clear HAL a0 a1 a2 a3 c0 hW0
    cases ra with
    | false =>
      have hend := HBW.out.trans (hb1.mono HBW.out.size)
      have hE : RES = false := HR.out.symm
      clear HALL HSO HBX HC HBW HR
      subst hE
      go_wp2
      go_ret
      exact ⟨rfl, hend⟩
    | true =>
      have HALW := Lib.hid (HALL.out hlt _ hb1)
      clear HALL
      go_wp2_with fail
      refine HALW.out.mono ?_
      rintro e w2 ⟨rfl, hb2⟩
      have hB2 := below_then hb1 hb2 (Nat.le_refl _)
      have g3 := HBX.out _ hB2
      clear HALW f3 hb1 hb2
      cases rk with
      | false =>
        have hend := HBW.out.trans (hB2.mono HBW.out.size)
        have hE : RES = false := HR.out.symm
        clear HSO HBX HC HBW HR
        subst hE
        go_wp2
        go_ret
        exact ⟨rfl, hend⟩
      | true =>
        have HSW := Lib.hid (HSO.out _ hB2)
        clear HSO
        go_wp2_with fail
        refine HSW.out.mono ?_
        rintro e w3 ⟨rfl, hb3⟩
        have hend := HBW.out.trans ((below_then hB2 hb3 (Nat.le_refl _)).mono HBW.out.size)
        have hE : RES = rs := HR.out.symm
        clear HSW HBX HC HBW hB2 hb3 HR
        subst hE
        go_wp2
        go_ret
        exact ⟨rfl, hend⟩
  · have hltz : (16 : Int) ≤ (outer : Int) := by omega
    rw [decide_eq_false hlt, Bool.false_and, Bool.false_and, Bool.false_and]
    clear HAL HALL HSO HBX HC
    go_enter Tryz.func65, Tryz.ntmps65
    go_wp2
    go_ret
    exact ⟨rfl, HBW.out⟩
theorem rights_all : ∀ (N : Nat) (n : Tm), szT n ≤ N → Rights n
  | 0, .mk _ _ _ ks, h => by unfold szT at h; omega
  | N + 1, .mk o m d ks, h => rights_step o m d ks (fun k hk => rights_all N k (by unfold szT at h; have := szTs_mem hk; omega))
set_option maxRecDepth 100000 in
theorem right_any (k : Tm) (C : Nat → Prop) (v : Value) (w : World) (hv : TmV C w k v) :
    Calls Tryz.prog 36 #[v] w fun e w' => e = .returned (.bool (rightF k 0)) ∧ Below w.heap.size w w' := by
  obtain ⟨c0, c1, c2, c3, rfl, hnd⟩ := hv
  obtain ⟨o, m, A, la, ca, K, lk, ck, e0, e1, e2, e3⟩ := hnd.shape
  subst e0 e1 e2 e3
  have hbw := below_new w (.cells #[.int .i64 o, .int .i64 m, .slice A la ca, .slice K lk ck] 43)
  have hc := rights_all _ k (Nat.le_refl _) C (.agg #[.int .i64 o, .int .i64 m, .slice A la ca, .slice K lk ck]) 0 (w.alloc (.cells #[.int .i64 o, .int .i64 m, .slice A la ca, .slice K lk ck] 43)) (by omega) ⟨_, _, _, _, rfl, TmC.below hbw _ _ _ _ _ hnd⟩
  obtain ⟨r, hr⟩ : ∃ x, rightF k 0 = x := ⟨_, rfl⟩
  rw [hr] at hc ⊢
  rw [show ((0 : Nat) : Int) = 0 from rfl] at hc
  have HC := Lib.hid hc
  clear hc hr hnd
  go_enter Tryz.func36, Tryz.ntmps36
  go_wp2_with fail
  refine HC.out.mono ?_
  rintro e w2 ⟨rfl, hb2⟩
  have hend := below_then hbw hb2 (by simp)
  clear HC hb2 hbw
  go_wp2
  go_ret
  exact ⟨rfl, hend⟩
end Go.Proofs.YtlhogjigdmpokaaGreatDoor.tmc
namespace Go.Proofs.YtlhogjigdmpokaaGreatDoor.tmc
open Go.RowKit Go.Proofs.YtlhogjigdmpokaaGreatDoor.tlvc
set_option linter.unusedVariables false
theorem str_now {w : World} {A : Option Addr} {n : Nat} {xs : List Int} (h : Bys w A n xs) (c : Nat) :
    (convert 24 9 (.slice A n c)).run Tryz.prog w = .ok (.string (strOfNums xs)) w :=
  run_str (P := Tryz.prog) 24 5 Tryz.underlying24 Tryz.underlying5 A n c xs h 9 Tryz.underlying9
theorem text_any (A B : Option Addr) (n c m d : Nat) (xs ys : List Int) (w : World) (hx : Bys w A n xs) (hy : Bys w B m ys) :
    Calls Tryz.prog 118 #[.slice A n c, .slice B m d] w fun e w' => e = .returned (.int .i64 (cmpL xs ys)) ∧ w' = w := by
  have s1 := str_now hx c
  have s2 := str_now hy d
  have l1 := str_less hx.2.1 hy.2.1
  have l2 := str_less hy.2.1 hx.2.1
  have sg := cmpL_sg xs ys
  rw [cmpL_swap xs ys] at l2
  have heq : cmpL xs ys = 0 → strOfNums xs = strOfNums ys := fun h => by rw [cmpL_zero.1 h]
  have hne : cmpL xs ys = 1 → (strOfNums xs).toList ≠ (strOfNums ys).toList := fun h e => by
    rw [Lib.strOfNums_toList, Lib.strOfNums_toList] at e
    have := cmp8_L xs ys hx.2.1 hy.2.1
    rw [e, h] at this
    have h2 := cmp8_L ys ys hy.2.1 hy.2.1
    rw [this, cmpL_zero.2 rfl] at h2
    cases h2
  obtain ⟨X, hX⟩ : ∃ x, strOfNums xs = x := ⟨_, rfl⟩
  obtain ⟨Y, hY⟩ : ∃ x, strOfNums ys = x := ⟨_, rfl⟩
  obtain ⟨r, hr⟩ : ∃ x, cmpL xs ys = x := ⟨_, rfl⟩
  rw [hX] at s1 l1 l2 heq hne
  rw [hY] at s2 l1 l2 heq hne
  rw [hr] at l1 l2 sg heq hne ⊢
  clear hX hY hr hx hy
  rcases sg with rfl | rfl | rfl
  · have e1 : Op.bytesLess X.toList Y.toList = true := by simpa using l1
    clear l1 l2 heq hne
    go_enter Tryz.func118, Tryz.ntmps118
    go_wp2
    go_ret
    exact ⟨rfl, rfl⟩
  · have e1 : Op.bytesLess X.toList Y.toList = false := by simpa using l1
    obtain rfl := heq rfl
    clear l1 l2 hne heq
    go_enter Tryz.func118, Tryz.ntmps118
    go_wp2
    go_ret
    exact ⟨rfl, rfl⟩
  · have e1 : Op.bytesLess X.toList Y.toList = false := by simpa using l1
    have e3 := hne rfl
    have e4 : (X.toList == Y.toList) = false := by simpa using e3
    clear l1 l2 heq hne
    go_enter Tryz.func118, Tryz.ntmps118
    go_wp2
    go_ret
    exact ⟨rfl, rfl⟩
/-- The contract of the document's Order at two terms. -/
def ROrders (k m : Tm) : Prop := ∀ (C1 C2 : Nat → Prop) (v u : Value) (w : World), TmV C1 w k v → TmV C2 w m u → Calls Tryz.prog 94 #[v, u] w fun e w' => e = .returned (.int .i64 (ordT k m)) ∧ Below w.heap.size w w'
set_option maxRecDepth 100000 in
set_option maxHeartbeats 16000000 in
theorem rorder_step (o m : Int) (d : List Int) (ks : List Tm) (hk : ∀ k ∈ ks, ∀ l, ROrders k l) (n : Tm) : ROrders (.mk o m d ks) n := by
  intro C1 C2 v u w hv hu
  obtain ⟨o', m', d', ls⟩ := n
  obtain ⟨c0, c1, c2, c3, rfl, hc⟩ := hv
  obtain ⟨f0, f1, f2, f3, rfl, hf⟩ := hu
  unfold TmC at hc hf
  obtain ⟨rfl, ho, rfl, hm, ⟨A, la, ca, rfl, hA1, hA2, hA3, _⟩, K, ck, rfl, hK1, hK2, hK3⟩ := hc
  obtain ⟨rfl, ho', rfl, hm', ⟨B, lb, cb, rfl, hB1, hB2, hB3, _⟩, L, cl, rfl, hL1, hL2, hL3⟩ := hf
  have hord : ordT (.mk o m d ks) (.mk o' m' d' ls) = or0 (cmpI o o') (or0 (cmpI m m') (or0 (cmpL d d') (ordL ks ls))) := by
    unfold ordT
    rfl
  rw [hord]
  have HK := Lib.hid hk
  have HK3 := Lib.hid hK3
  have HL3 := Lib.hid hL3
  clear hord hk hK3 hL3
  obtain ⟨lk, hlk⟩ : ∃ x, ks.length = x := ⟨_, rfl⟩
  obtain ⟨ll, hll⟩ : ∃ x, ls.length = x := ⟨_, rfl⟩
  rw [hlk] at hK1 ⊢
  rw [hll] at hL1 ⊢
  have hK9 : ck ≤ 9223372036854775807 := by unfold maxLen at hK2; omega
  have hL9 : cl ≤ 9223372036854775807 := by unfold maxLen at hL2; omega
  have hbw : Below w.heap.size w ((w.alloc (.cells #[.int .i64 o, .int .i64 m, .slice A la ca, .slice K lk ck] 43)).alloc (.cells #[.int .i64 o', .int .i64 m', .slice B lb cb, .slice L ll cl] 43)) := (below_new _ _).alloc (by simp) _
  have htx := text_any A B la ca lb cb d d' _ (hA3.below hbw) (hB3.below hbw)
  by_cases e1 : o = o'
  · subst e1
    rw [show cmpI o o = 0 from cmpI_zero.2 rfl, show ∀ x, or0 0 x = x from fun x => rfl]
    by_cases e2 : m = m'
    · subst e2
      rw [show cmpI m m = 0 from cmpI_zero.2 rfl, show ∀ x, or0 0 x = x from fun x => rfl]
      obtain ⟨r, hr⟩ : ∃ x, cmpL d d' = x := ⟨_, rfl⟩
      rw [hr] at htx ⊢
      have HT := Lib.hid htx
      clear htx hr hA3 hB3
      by_cases e3 : r = 0
      · subst e3
        rw [show ∀ x, or0 0 x = x from fun x => rfl]
        obtain ⟨ANS, hANS⟩ : ∃ x, ordL ks ls = x := ⟨_, rfl⟩
        rw [hANS]
        have HN := Lib.hid hANS
        clear hANS
        go_enter Tryz.func94, Tryz.ntmps94
        go_wp2_with fail
        refine HT.out.mono ?_
        rintro e w' ⟨rfl, rfl⟩
        clear HT
        go_wp2_with fail
        obtain ⟨W0, hW0⟩ : ∃ x, (w.alloc (.cells #[.int .i64 o, .int .i64 m, .slice A la ca, .slice K lk ck] 43)).alloc (.cells #[.int .i64 o, .int .i64 m, .slice B lb cb, .slice L ll cl] 43) = x := ⟨_, rfl⟩
        have hz : w.heap.size + 2 ≤ W0.heap.size := by rw [← hW0]; simp
        have z0 : W0.heap[w.heap.size]? = some (.cells #[.int .i64 o, .int .i64 m, .slice A la ca, .slice K lk ck] 43) := by rw [← hW0, heap_old_ _ _ (by simp)]; exact heap_new_ _ _
        have z1 : W0.heap[w.heap.size + 1]? = some (.cells #[.int .i64 o, .int .i64 m, .slice B lb cb, .slice L ll cl] 43) := by
          rw [← hW0]
          have := heap_new_ (w.alloc (.cells #[.int .i64 o, .int .i64 m, .slice A la ca, .slice K lk ck] 43)) (.cells #[.int .i64 o, .int .i64 m, .slice B lb cb, .slice L ll cl] 43)
          rwa [show (w.alloc (.cells #[.int .i64 o, .int .i64 m, .slice A la ca, .slice K lk ck] 43)).heap.size = w.heap.size + 1 by simp] at this
        rw [hW0] at hbw ⊢
        have hbx : ∀ W, Below W0.heap.size W0 W → W.cell? ⟨w.heap.size, 3, none⟩ = some (.slice K lk ck) ∧ W.cell? ⟨w.heap.size + 1, 3, none⟩ = some (.slice L ll cl) := fun W hW => ⟨(box4 hW z0 (by omega)).2.2.2, (box4 hW z1 (by omega)).2.2.2⟩
        have HBX := Lib.hid hbx
        clear hW0 z0 z1 hbx
        go_loopg [6] (lk + 1) (fun gk s6 wx => ∃ (i : Nat), s6 = .int .i64 i ∧ i ≤ lk ∧ i ≤ ll ∧ lk - i < gk ∧ Hid (ordL (ks.drop i) (ls.drop i) = ANS) ∧ Below W0.heap.size W0 wx)
        case atStart => exact ⟨0, rfl, by omega, by omega, by omega, HN, Below.refl _ _⟩
        case round =>
          obtain ⟨i, rfl, hi, hj, hgk, hq, hbel⟩ := hrel
          obtain ⟨f1, f2⟩ := HBX.out _ hbel
          have hbW : Below w.heap.size w wr := hbw.trans (hbel.mono (by omega))
          by_cases hlt : i < lk
          · have hltz : (i : Int) < (lk : Int) := by omega
            by_cases hl2 : i < ll
            · have hl2z : (i : Int) < (ll : Int) := by omega
              obtain ⟨gk', rfl⟩ : ∃ g', gk = g' + 1 := ⟨gk - 1, by omega⟩
              obtain ⟨g, off, rfl, hg, hBg, hks⟩ := HK3.out (by omega)
              obtain ⟨g2, off2, rfl, hg2, hBg2, hms⟩ := HL3.out (by omega)
              obtain ⟨d0, d1, d2, d3, p0, p1, p2, p3, hd⟩ := (KidsC.below hbW hg hBg ks off hks).at i (by omega)
              obtain ⟨f0', f1', f2', f3', q0, q1, q2, q3, hf⟩ := (KidsC.below hbW hg2 hBg2 ls off2 hms).at i (by omega)
              have hst := ordL_drop (ks := ks) (ls := ls) (i := i) (by omega) (by omega)
              have ih := HK.out _ (List.getElem_mem (show i < ks.length by omega)) (ls[i]'(by omega)) C1 C2 (.agg #[d0, d1, d2, d3]) (.agg #[f0', f1', f2', f3']) wr.drew ⟨_, _, _, _, rfl, TmC.below (Below.refl _ _).drew _ _ _ _ _ hd⟩ ⟨_, _, _, _, rfl, TmC.below (Below.refl _ _).drew _ _ _ _ _ hf⟩
              obtain ⟨r, hr⟩ : ∃ x, ordT (ks[i]'(by omega)) (ls[i]'(by omega)) = x := ⟨_, rfl⟩
              rw [hr] at hst ih
              have hq2 := hq.out
              rw [hst] at hq2
              have IH2 := Lib.hid ih
              have Q2 := Lib.hid hq2
              have X1 : ({ heap := wr.heap, tape := wr.tape, drawn := wr.drawn + 1, os := wr.os, output := wr.output } : World).cell? ⟨w.heap.size, 3, none⟩ = some (.slice (some ⟨g, off, none⟩) lk ck) := f1
              have X2 : ({ heap := wr.heap, tape := wr.tape, drawn := wr.drawn + 1, os := wr.os, output := wr.output } : World).cell? ⟨w.heap.size + 1, 3, none⟩ = some (.slice (some ⟨g2, off2, none⟩) ll cl) := f2
              have Y0 : ({ heap := wr.heap, tape := wr.tape, drawn := wr.drawn + 1, os := wr.os, output := wr.output } : World).cell? ⟨g, off + i * 4, none⟩ = some d0 := p0
              have Y1 : ({ heap := wr.heap, tape := wr.tape, drawn := wr.drawn + 1, os := wr.os, output := wr.output } : World).cell? ⟨g, off + i * 4 + 1, none⟩ = some d1 := p1
              have Y2 : ({ heap := wr.heap, tape := wr.tape, drawn := wr.drawn + 1, os := wr.os, output := wr.output } : World).cell? ⟨g, off + i * 4 + 2, none⟩ = some d2 := p2
              have Y3 : ({ heap := wr.heap, tape := wr.tape, drawn := wr.drawn + 1, os := wr.os, output := wr.output } : World).cell? ⟨g, off + i * 4 + 3, none⟩ = some d3 := p3
              have Z0 : ({ heap := wr.heap, tape := wr.tape, drawn := wr.drawn + 1, os := wr.os, output := wr.output } : World).cell? ⟨g2, off2 + i * 4, none⟩ = some f0' := q0
              have Z1 : ({ heap := wr.heap, tape := wr.tape, drawn := wr.drawn + 1, os := wr.os, output := wr.output } : World).cell? ⟨g2, off2 + i * 4 + 1, none⟩ = some f1' := q1
              have Z2 : ({ heap := wr.heap, tape := wr.tape, drawn := wr.drawn + 1, os := wr.os, output := wr.output } : World).cell? ⟨g2, off2 + i * 4 + 2, none⟩ = some f2' := q2
              have Z3 : ({ heap := wr.heap, tape := wr.tape, drawn := wr.drawn + 1, os := wr.os, output := wr.output } : World).cell? ⟨g2, off2 + i * 4 + 3, none⟩ = some f3' := q3
              clear ih hq2 hst hr hd hf hks hms hq
              go_wp2_with fail
              go_still_tail 10, (by kernel_rfl)
              change wpList _ _ _ _ _ wr.drew
              have hbel1 := hbel.drew
              obtain ⟨w2, hw2⟩ : ∃ x, wr.drew = x := ⟨_, rfl⟩
              rw [hw2] at IH2 hbel1 ⊢
              clear hw2 X1 X2 Y0 Y1 Y2 Y3 Z0 Z1 Z2 Z3 f1 f2 p0 p1 p2 p3 q0 q1 q2 q3 hbW hbel
              go_wp2_with fail
              refine IH2.out.mono ?_
              rintro e w3 ⟨rfl, hb3⟩
              have hbel3 := below_then hbel1 hb3 (Nat.le_refl _)
              clear IH2 hb3 hbel1
              by_cases hr0 : r = 0
              · subst hr0
                have Q3 : Hid (ordL (ks.drop (i + 1)) (ls.drop (i + 1)) = ANS) := Lib.hid (by have := Q2.out; unfold or0 at this; rwa [if_pos rfl] at this)
                clear Q2
                go_wp2
                go_roundg gk'
                case measure => omega
                case rel => exact ⟨i + 1, by go_num, by omega, by omega, by omega, Q3, hbel3⟩
              · have hrb : (r == 0) = false := by simpa using hr0
                have hE : r = ANS := by have := Q2.out; unfold or0 at this; rwa [if_neg hr0] at this
                have hend := hbw.trans (hbel3.mono (by omega))
                clear Q2 HK HK3 HL3 HBX HN
                subst hE
                go_wp2
                go_ret
                exact ⟨rfl, hend⟩
            · have hl2z : ¬ (i : Int) < (ll : Int) := by omega
              have hE : (1 : Int) = ANS := by rw [← hq.out, List.drop_eq_getElem_cons (by omega), List.drop_eq_nil_of_le (show ls.length ≤ i by omega), ordL_end]
              have h3 : ¬ (lk : Int) < (ll : Int) := by omega
              have h4 : (ll : Int) < (lk : Int) := by omega
              clear hq HN HK HK3 HL3 HBX hbel hbw
              subst hE
              go_wp2
              go_ret
              exact ⟨rfl, hbW⟩
          · have hltz : ¬ (i : Int) < (lk : Int) := by omega
            have hE : (if ll = i then (0 : Int) else -1) = ANS := by
              rw [← hq.out, List.drop_eq_nil_of_le (show ks.length ≤ i by omega), ordL_nil, List.length_drop]
              by_cases h : ll = i
              · rw [if_pos h, if_pos (by omega)]
              · rw [if_neg h, if_neg (by omega)]
            clear hq HN HK HK3 HL3 HBX hbel hbw
            by_cases h : ll = i
            · rw [if_pos h] at hE
              have h3 : ¬ (lk : Int) < (ll : Int) := by omega
              have h4 : ¬ (ll : Int) < (lk : Int) := by omega
              clear h
              subst hE
              go_wp2
              go_ret
              exact ⟨rfl, hbW⟩
            · rw [if_neg h] at hE
              have h3 : (lk : Int) < (ll : Int) := by omega
              clear h
              subst hE
              go_wp2
              go_ret
              exact ⟨rfl, hbW⟩
      · have hrb : (r == 0) = false := by simpa using e3
        rw [show ∀ x, or0 r x = r from fun x => if_neg e3]
        go_enter Tryz.func94, Tryz.ntmps94
        go_wp2_with fail
        refine HT.out.mono ?_
        rintro e w' ⟨rfl, rfl⟩
        go_wp2
        go_ret
        exact ⟨rfl, hbw⟩
    · have hb2 : (m == m') = false := by simpa using e2
      clear htx HK HK3 HL3
      by_cases l2 : m < m'
      · rw [show cmpI m m' = -1 from if_pos l2, show ∀ x, or0 (-1) x = -1 from fun x => rfl]
        go_enter Tryz.func94, Tryz.ntmps94
        go_wp2
        go_ret
        exact ⟨rfl, hbw⟩
      · rw [show cmpI m m' = 1 from by unfold cmpI; rw [if_neg l2, if_pos (by omega)], show ∀ x, or0 1 x = 1 from fun x => rfl]
        go_enter Tryz.func94, Tryz.ntmps94
        go_wp2
        go_ret
        exact ⟨rfl, hbw⟩
  · have hb1 : (o == o') = false := by simpa using e1
    clear htx HK HK3 HL3
    by_cases l1 : o < o'
    · rw [show cmpI o o' = -1 from if_pos l1, show ∀ x, or0 (-1) x = -1 from fun x => rfl]
      go_enter Tryz.func94, Tryz.ntmps94
      go_wp2
      go_ret
      exact ⟨rfl, hbw⟩
    · rw [show cmpI o o' = 1 from by unfold cmpI; rw [if_neg l1, if_pos (by omega)], show ∀ x, or0 1 x = 1 from fun x => rfl]
      go_enter Tryz.func94, Tryz.ntmps94
      go_wp2
      go_ret
      exact ⟨rfl, hbw⟩
theorem rorders_all : ∀ (N : Nat) (n : Tm), szT n ≤ N → ∀ l, ROrders n l
  | 0, .mk _ _ _ ks, h => by unfold szT at h; omega
  | N + 1, .mk o m d ks, h => fun l => rorder_step o m d ks (fun k hk => rorders_all N k (by unfold szT at h; have := szTs_mem hk; omega)) l
/-- The document's Order's contract. -/
theorem rorder_any (n l : Tm) : ROrders n l := rorders_all _ n (Nat.le_refl _) l
end Go.Proofs.YtlhogjigdmpokaaGreatDoor.tmc
namespace Go.Proofs.YtlhogjigdmpokaaGreatDoor.tmc
open Go.RowKit Go.Proofs.YtlhogjigdmpokaaGreatDoor.tlvc
set_option linter.unusedVariables false
theorem szTs_drop {ks : List Tm} {i : Nat} (h : i < ks.length) : szTs (ks.drop i) = szT ks[i] + szTs (ks.drop (i + 1)) := by
  rw [List.drop_eq_getElem_cons h]
  conv => lhs; unfold szTs
set_option maxRecDepth 100000 in
set_option maxHeartbeats 4000000 in
theorem size_any {B : Nat → Prop} : ∀ (N : Nat) (n : Tm), szT n ≤ N → N ≤ 1000000 → ∀ (v : Value) (w : World), TmV B w n v →
    Calls Tryz.prog 45 #[v] w fun e w' => e = .returned (.int .i64 (szT n : Nat)) ∧ Below w.heap.size w w'
  | 0, .mk _ _ _ ks, h, _, _, _, _ => by unfold szT at h; omega
  | N + 1, .mk t m b ks, h, hN, v, w, hv => by
    obtain ⟨c0, c1, c2, c3, rfl, hc⟩ := hv
    unfold TmC at hc
    obtain ⟨rfl, ht, rfl, hm, ⟨A, la, ca, rfl, hA1, hA2, hA3, _⟩, K, ck, rfl, hK1, hK2, hK3⟩ := hc
    unfold szT at h
    have ih : ∀ k ∈ ks, ∀ (v : Value) (w : World), TmV B w k v → Calls Tryz.prog 45 #[v] w fun e w' => e = .returned (.int .i64 (szT k : Nat)) ∧ Below w.heap.size w w' := fun k hk => size_any N k (by have := szTs_mem hk; omega) (by omega)
    obtain ⟨ANS, hANS⟩ : ∃ x, szT (.mk t m b ks) = x := ⟨_, rfl⟩
    rw [hANS]
    unfold szT at hANS
    have hbig : ANS ≤ 1000000 := by omega
    have IH := Lib.hid ih
    have HK3 := Lib.hid hK3
    have HA3 := Lib.hid hA3
    obtain ⟨len, hlen⟩ : ∃ x, ks.length = x := ⟨_, rfl⟩
    rw [hlen] at hK1 ⊢
    have hK9 : ck ≤ 9223372036854775807 := by unfold maxLen at hK2; omega
    clear ih hA3 hK3 size_any
    go_enter Tryz.func45, Tryz.ntmps45
    go_wp2_with fail
    go_loopg [3, 9] (len + 1) (fun gk s3 s9 wx => ∃ (i : Nat) (k : Nat), s3 = .int .i64 k ∧ s9 = .int .i64 i ∧ i ≤ len ∧ len - i < gk ∧ Hid (szTs (ks.drop i) + k = ANS) ∧ Below (w.heap.size + 1) (w.alloc (.cells #[.int .i64 t, .int .i64 m, .slice A la ca, .slice K len ck] 43)) wx)
    case atStart => exact ⟨0, 1, rfl, rfl, by omega, by omega, Lib.hid hANS, Below.refl _ _⟩
    case round =>
      obtain ⟨i, k, rfl, rfl, hi, hgk, hq, hbel⟩ := hrel
      have hbw : Below w.heap.size w wr := ((Below.refl _ _).alloc (Nat.le_refl _) _).trans (hbel.mono (Nat.le_succ _))
      by_cases hlt : i < len
      · have hltz : (i : Int) < (len : Int) := by omega
        obtain ⟨gk', rfl⟩ : ∃ g', gk = g' + 1 := ⟨gk - 1, by omega⟩
        obtain ⟨g, off, rfl, hg, hBg, hks⟩ := HK3.out (by omega)
        obtain ⟨d0, d1, d2, d3, e0, e1, e2, e3, hd⟩ := (KidsC.below hbw hg hBg ks off hks).at i (by omega)
        clear hks
        obtain ⟨to, tm, tA, tla, tca, tK, tlk, tck, q0, q1, q2, q3⟩ := hd.shape
        subst q0 q1 q2 q3
        have hmem : ks[i] ∈ ks := List.getElem_mem _
        have hnew : Below wr.heap.size wr (wr.alloc (.cells #[.int .i64 to, .int .i64 tm, .slice tA tla tca, .slice tK tlk tck] 43)) := (Below.refl _ _).alloc (Nat.le_refl _) _
        have ih := IH.out _ hmem (.agg #[.int .i64 to, .int .i64 tm, .slice tA tla tca, .slice tK tlk tck]) (wr.alloc (.cells #[.int .i64 to, .int .i64 tm, .slice tA tla tca, .slice tK tlk tck] 43)) ⟨_, _, _, _, rfl, TmC.below hnew _ _ _ _ _ hd⟩
        have hq2 := hq.out
        rw [szTs_drop (by omega)] at hq2
        obtain ⟨p, hp⟩ : ∃ x, szT ks[i] = x := ⟨_, rfl⟩
        rw [hp] at ih hq2
        have hkp : k + p ≤ 1000000 := by omega
        have IH2 := Lib.hid ih
        have Q2 : Hid (szTs (ks.drop (i + 1)) + (k + p) = ANS) := Lib.hid (by omega)
        have hw2 : IntKind.i64.wrap ((k : Int) + (p : Int)) = (k : Int) + (p : Int) := IntWalk.i64_in _ (by omega)
        clear ih hq2 hd hp hmem hq
        go_wp2_with fail
        refine IH2.out.mono ?_
        rintro e w2 ⟨rfl, hb2⟩
        have hbel2 : Below (w.heap.size + 1) (w.alloc (.cells #[.int .i64 t, .int .i64 m, .slice A la ca, .slice (some ⟨g, off, none⟩) len ck] 43)) w2 := (hbel.trans (hnew.mono (by have := hbel.size; simpa using this))).trans (hb2.mono (by have := hbel.size; simp at this ⊢; omega))
        clear IH2 hb2 hbel hbw hnew e0 e1 e2 e3
        go_wp2
        go_roundg gk'
        case measure => omega
        case rel => exact ⟨i + 1, k + p, by go_num, by go_num, by omega, by omega, Q2, hbel2⟩
      · have hltz : ¬ (i : Int) < (len : Int) := by omega
        have hend : k = ANS := by
          rw [← hq.out, List.drop_eq_nil_of_le (by omega)]
          unfold szTs
          omega
        clear hq IH HK3 HA3 hbel
        subst hend
        go_wp2
        go_ret
        exact ⟨rfl, hbw⟩
set_option maxRecDepth 100000 in
set_option maxHeartbeats 4000000 in
theorem refSize_any {B : Nat → Prop} : ∀ (N : Nat) (n : Tm), szT n ≤ N → N ≤ 1000000 → ∀ (v : Value) (w : World), TmV B w n v →
    Calls Tryz.prog 49 #[v] w fun e w' => e = .returned (.int .i64 (szT n : Nat)) ∧ Below w.heap.size w w'
  | 0, .mk _ _ _ ks, h, _, _, _, _ => by unfold szT at h; omega
  | N + 1, .mk t m b ks, h, hN, v, w, hv => by
    obtain ⟨c0, c1, c2, c3, rfl, hc⟩ := hv
    unfold TmC at hc
    obtain ⟨rfl, ht, rfl, hm, ⟨A, la, ca, rfl, hA1, hA2, hA3, _⟩, K, ck, rfl, hK1, hK2, hK3⟩ := hc
    unfold szT at h
    have ih : ∀ k ∈ ks, ∀ (v : Value) (w : World), TmV B w k v → Calls Tryz.prog 49 #[v] w fun e w' => e = .returned (.int .i64 (szT k : Nat)) ∧ Below w.heap.size w w' := fun k hk => refSize_any N k (by have := szTs_mem hk; omega) (by omega)
    obtain ⟨ANS, hANS⟩ : ∃ x, szT (.mk t m b ks) = x := ⟨_, rfl⟩
    rw [hANS]
    unfold szT at hANS
    have hbig : ANS ≤ 1000000 := by omega
    have IH := Lib.hid ih
    have HK3 := Lib.hid hK3
    have HA3 := Lib.hid hA3
    obtain ⟨len, hlen⟩ : ∃ x, ks.length = x := ⟨_, rfl⟩
    rw [hlen] at hK1 ⊢
    have hK9 : ck ≤ 9223372036854775807 := by unfold maxLen at hK2; omega
    clear ih hA3 hK3 refSize_any
    go_enter Tryz.func49, Tryz.ntmps49
    go_wp2_with fail
    go_loopg [3, 4] (len + 1) (fun gk s3 s9 wx => ∃ (i : Nat) (k : Nat), s3 = .int .i64 k ∧ s9 = .int .i64 i ∧ i ≤ len ∧ len - i < gk ∧ Hid (szTs (ks.drop i) + k = ANS) ∧ Below (w.heap.size + 1) (w.alloc (.cells #[.int .i64 t, .int .i64 m, .slice A la ca, .slice K len ck] 43)) wx)
    case atStart => exact ⟨0, 1, rfl, rfl, by omega, by omega, Lib.hid hANS, Below.refl _ _⟩
    case round =>
      obtain ⟨i, k, rfl, rfl, hi, hgk, hq, hbel⟩ := hrel
      have hf3 : wr.cell? ⟨w.heap.size, 3, none⟩ = some (.slice K len ck) := by
        rw [hbel.cell (p := ⟨w.heap.size, 3, none⟩) (by show w.heap.size < w.heap.size + 1; omega), World.cell?_alloc_mark]; rfl
      have hbw : Below w.heap.size w wr := ((Below.refl _ _).alloc (Nat.le_refl _) _).trans (hbel.mono (Nat.le_succ _))
      by_cases hlt : i < len
      · have hltz : (i : Int) < (len : Int) := by omega
        obtain ⟨gk', rfl⟩ : ∃ g', gk = g' + 1 := ⟨gk - 1, by omega⟩
        obtain ⟨g, off, rfl, hg, hBg, hks⟩ := HK3.out (by omega)
        obtain ⟨d0, d1, d2, d3, e0, e1, e2, e3, hd⟩ := (KidsC.below hbw hg hBg ks off hks).at i (by omega)
        clear hks
        have hmem : ks[i] ∈ ks := List.getElem_mem _
        have ih := IH.out _ hmem (.agg #[d0, d1, d2, d3]) wr ⟨_, _, _, _, rfl, hd⟩
        have hq2 := hq.out
        rw [szTs_drop (by omega)] at hq2
        obtain ⟨p, hp⟩ : ∃ x, szT ks[i] = x := ⟨_, rfl⟩
        rw [hp] at ih hq2
        have hkp : k + p ≤ 1000000 := by omega
        have IH2 := Lib.hid ih
        have Q2 : Hid (szTs (ks.drop (i + 1)) + (k + p) = ANS) := Lib.hid (by omega)
        have hw2 : IntKind.i64.wrap ((k : Int) + (p : Int)) = (k : Int) + (p : Int) := IntWalk.i64_in _ (by omega)
        clear ih hq2 hd hp hmem hq
        go_wp2_with fail
        refine IH2.out.mono ?_
        rintro e w2 ⟨rfl, hb2⟩
        have hbel2 : Below (w.heap.size + 1) (w.alloc (.cells #[.int .i64 t, .int .i64 m, .slice A la ca, .slice (some ⟨g, off, none⟩) len ck] 43)) w2 := hbel.trans (hb2.mono (by have := hbel.size; simpa using this))
        clear IH2 hb2 hbel hbw e0 e1 e2 e3
        go_wp2
        go_roundg gk'
        case measure => omega
        case rel => exact ⟨i + 1, k + p, by go_num, by go_num, by omega, by omega, Q2, hbel2⟩
      · have hltz : ¬ (i : Int) < (len : Int) := by omega
        have hend : k = ANS := by
          rw [← hq.out, List.drop_eq_nil_of_le (by omega)]
          unfold szTs
          omega
        clear hq IH HK3 HA3 hbel
        subst hend
        go_wp2
        go_ret
        exact ⟨rfl, hbw⟩
end Go.Proofs.YtlhogjigdmpokaaGreatDoor.tmc
