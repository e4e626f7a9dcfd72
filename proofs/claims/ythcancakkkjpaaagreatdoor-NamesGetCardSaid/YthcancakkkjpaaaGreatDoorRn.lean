/- Names held against one another: the program's Same and Under, the document's Same, Under and Alike. -/
import Derived.Test.YthcancakkkjpaaaGreatDoorRm
import Derived.Test.YthcancakkkjpaaaGreatDoorXe
import Derived.Lib.QuietBelow
import Derived.BigQuiet
namespace Go.Proofs.YthcancakkkjpaaaGreatDoor.nmc
open Go.RowKit Go.Proofs.YthcancakkkjpaaaGreatDoor.tlvc Go.Proofs.YthcancakkkjpaaaGreatDoor.tlvd Go.Proofs.YthcancakkkjpaaaGreatDoor.ndc Go.Proofs.YthcancakkkjpaaaGreatDoor.txc Go.Proofs.YthcancakkkjpaaaGreatDoor.txm Go.Proofs.YthcancakkkjpaaaGreatDoor.intc Go.Proofs.YthcancakkkjpaaaGreatDoor.intm
set_option linter.unusedVariables false
set_option linter.unusedSimpArgs false
theorem drewN_add (w : World) (q r : Nat) : (w.drewN q).drewN r = w.drewN (q + r) := by
  unfold World.drewN; simp [Nat.add_assoc]
theorem same_step {xs ys : List Int} {k : Nat} (h : xs.take k = ys.take k) (hx : k < xs.length) (hy : k < ys.length) (he : xs.getD k 0 = ys.getD k 0) : xs.take (k + 1) = ys.take (k + 1) := by
  rw [List.take_succ_eq_append_getElem hx, List.take_succ_eq_append_getElem hy, h]
  simp only [List.getD_eq_getElem?_getD, List.getElem?_eq_getElem hx, List.getElem?_eq_getElem hy, Option.getD_some] at he
  rw [he]
def SameB (w : World) (b : Bool) (e : Ending) (w' : World) : Prop := e = .returned (.bool b) ∧ ∃ q, w' = w.drewN q
theorem SameB.below {w : World} {b : Bool} {e : Ending} {w' : World} (h : SameB w b e w') : e = .returned (.bool b) ∧ Below w.heap.size w w' := by
  obtain ⟨h, q, rfl⟩ := h
  exact ⟨h, rfl, rfl, rfl, Nat.le_refl _, fun _ _ => rfl⟩
set_option maxHeartbeats 400000 in
theorem isame_any (A B : Option Addr) (n c m d : Nat) (xs ys : List Int) (w : World) (hx : Ins w A n xs) (hy : Ins w B m ys) (hm : n ≤ maxLen) :
    Calls Tryz.prog 29 #[.slice A n c, .slice B m d] w (SameB w (decide (xs = ys))) := by
  unfold maxLen at hm
  have hlx := hx.len
  have hly := hy.len
  by_cases hnm : n = m
  · subst hnm
    have HX := Lib.hid hlx
    have HY := Lib.hid hly
    have hcx := Lib.hid hx.2.2
    have hcy := Lib.hid hy.2.2
    obtain ⟨R, hR⟩ : ∃ R, decide (xs = ys) = R := ⟨_, rfl⟩
    have HR := Lib.hid hR
    rw [hR]
    clear hlx hly hR
    go_enter Tryz.func29, Tryz.ntmps29
    go_wp2
    go_loopw [5] (fun x wr => ∃ k : Nat, x = .int .i64 k ∧ k ≤ n ∧ xs.take k = ys.take k ∧ ∃ q, wr = w.drewN q) (fun x _ => n - (intOf x).toNat)
    case atStart => exact ⟨0, rfl, by omega, rfl, 0, rfl⟩
    case round =>
      obtain ⟨k, rfl, hk, he, q, rfl⟩ := hrel
      by_cases hlt : k < n
      · obtain ⟨b, off, rfl, _, hcl⟩ := hcx.out (by omega)
        obtain ⟨b2, off2, rfl, _, hcl2⟩ := hcy.out (by omega)
        have hc1 : ∀ q, (w.drewN q).cell? ⟨b, off + k, none⟩ = some (.int .i64 (xs.getD k 0)) := fun q => hcl k hlt
        have hc2 : ∀ q, (w.drewN q).cell? ⟨b2, off2 + k, none⟩ = some (.int .i64 (ys.getD k 0)) := fun q => hcl2 k hlt
        have hstep := same_step he (by rw [HX.out]; exact hlt) (by rw [HY.out]; exact hlt)
        obtain ⟨x, hxx⟩ : ∃ x, xs.getD k 0 = x := ⟨_, rfl⟩
        obtain ⟨y, hyy⟩ : ∃ y, ys.getD k 0 = y := ⟨_, rfl⟩
        have HE := Lib.hid he
        have HXX := Lib.hid hxx
        have HYY := Lib.hid hyy
        rw [hxx] at hc1
        rw [hyy] at hc2
        rw [hxx, hyy] at hstep
        have HS := Lib.hid hstep
        have hk0 : (k : Int) < n := by omega
        have hk1 : (0 : Int) ≤ k := by omega
        clear hcl hcl2 he hxx hyy hstep
        by_cases hxy : x = y
        · subst hxy
          have hS2 := HS.out rfl
          have HS2 := Lib.hid hS2
          clear HS hS2
          go_wp2
          go_quiet (fail)
          go_wp2
          go_roundw
          case rel => exact ⟨k + 1, by go_num, by omega, HS2.out, _, rfl⟩
          case measure => simp [intOf]; omega
        · have hne : (x != y) = true := by simpa using hxy
          have e : R = false := by
            rw [← HR.out]
            simp only [decide_eq_false_iff_not]
            intro h
            rw [h] at HXX
            exact hxy (HXX.out.symm.trans HYY.out)
          subst e
          clear hxy
          go_wp2
          go_quiet (fail)
          go_wp2
          go_ret
          exact ⟨rfl, _, drewN_add _ _ _⟩
      · have e : R = true := by
          rw [← HR.out]
          simp only [decide_eq_true_eq]
          rwa [List.take_of_length_le (by rw [HX.out]; omega), List.take_of_length_le (by rw [HY.out]; omega)] at he
        subst e
        clear he
        go_wp2
        go_ret
        exact ⟨rfl, _, rfl⟩
  · have e : decide (xs = ys) = false := by
      simp only [decide_eq_false_iff_not]
      intro h
      rw [h] at hlx
      exact hnm (hlx.symm.trans hly)
    have hne : ((n : Int) != m) = true := by simp only [bne_iff_ne, ne_eq]; omega
    have hne2 : (n != m) = true := by simpa using hnm
    rw [e]
    clear e hlx hly hnm
    go_enter Tryz.func29, Tryz.ntmps29
    go_wp2
    go_ret
    exact ⟨rfl, 0, rfl⟩

set_option maxHeartbeats 400000 in
theorem ieq_any (A B : Option Addr) (n c m d : Nat) (xs ys : List Int) (w : World) (hx : Ins w A n xs) (hy : Ins w B m ys) (hm : n ≤ maxLen) :
    Calls Tryz.prog 39 #[.slice A n c, .slice B m d] w (SameB w (decide (xs = ys))) := by
  unfold maxLen at hm
  have hlx := hx.len
  have hly := hy.len
  by_cases hnm : n = m
  · subst hnm
    have HX := Lib.hid hlx
    have HY := Lib.hid hly
    have hcx := Lib.hid hx.2.2
    have hcy := Lib.hid hy.2.2
    obtain ⟨R, hR⟩ : ∃ R, decide (xs = ys) = R := ⟨_, rfl⟩
    have HR := Lib.hid hR
    rw [hR]
    clear hlx hly hR
    go_enter Tryz.func39, Tryz.ntmps39
    go_wp2
    go_loopw [13] (fun x wr => ∃ k : Nat, x = .int .i64 k ∧ k ≤ n ∧ xs.take k = ys.take k ∧ ∃ q, wr = w.drewN q) (fun x _ => n - (intOf x).toNat)
    case atStart => exact ⟨0, rfl, by omega, rfl, 0, rfl⟩
    case round =>
      obtain ⟨k, rfl, hk, he, q, rfl⟩ := hrel
      by_cases hlt : k < n
      · obtain ⟨b, off, rfl, _, hcl⟩ := hcx.out (by omega)
        obtain ⟨b2, off2, rfl, _, hcl2⟩ := hcy.out (by omega)
        have hc1 : ∀ q, (w.drewN q).cell? ⟨b, off + k, none⟩ = some (.int .i64 (xs.getD k 0)) := fun q => hcl k hlt
        have hc2 : ∀ q, (w.drewN q).cell? ⟨b2, off2 + k, none⟩ = some (.int .i64 (ys.getD k 0)) := fun q => hcl2 k hlt
        have hstep := same_step he (by rw [HX.out]; exact hlt) (by rw [HY.out]; exact hlt)
        obtain ⟨x, hxx⟩ : ∃ x, xs.getD k 0 = x := ⟨_, rfl⟩
        obtain ⟨y, hyy⟩ : ∃ y, ys.getD k 0 = y := ⟨_, rfl⟩
        have HE := Lib.hid he
        have HXX := Lib.hid hxx
        have HYY := Lib.hid hyy
        rw [hxx] at hc1
        rw [hyy] at hc2
        rw [hxx, hyy] at hstep
        have HS := Lib.hid hstep
        have hk0 : (k : Int) < n := by omega
        have hk1 : (0 : Int) ≤ k := by omega
        clear hcl hcl2 he hxx hyy hstep
        by_cases hxy : x = y
        · subst hxy
          have hS2 := HS.out rfl
          have HS2 := Lib.hid hS2
          clear HS hS2
          go_wp2
          go_quiet (fail)
          go_wp2
          go_roundw
          case rel => exact ⟨k + 1, by go_num, by omega, HS2.out, _, rfl⟩
          case measure => simp [intOf]; omega
        · have hne : (x != y) = true := by simpa using hxy
          have e : R = false := by
            rw [← HR.out]
            simp only [decide_eq_false_iff_not]
            intro h
            rw [h] at HXX
            exact hxy (HXX.out.symm.trans HYY.out)
          subst e
          clear hxy
          go_wp2
          go_quiet (fail)
          go_wp2
          go_ret
          exact ⟨rfl, _, drewN_add _ _ _⟩
      · have e : R = true := by
          rw [← HR.out]
          simp only [decide_eq_true_eq]
          rwa [List.take_of_length_le (by rw [HX.out]; omega), List.take_of_length_le (by rw [HY.out]; omega)] at he
        subst e
        clear he
        go_wp2
        go_ret
        exact ⟨rfl, _, rfl⟩
  · have e : decide (xs = ys) = false := by
      simp only [decide_eq_false_iff_not]
      intro h
      rw [h] at hlx
      exact hnm (hlx.symm.trans hly)
    have hne : ((n : Int) != m) = true := by simp only [bne_iff_ne, ne_eq]; omega
    have hne2 : (n != m) = true := by simpa using hnm
    rw [e]
    clear e hlx hly hnm
    go_enter Tryz.func39, Tryz.ntmps39
    go_wp2
    go_ret
    exact ⟨rfl, 0, rfl⟩


theorem ieq_b (A B : Option Addr) (n c m d : Nat) (xs ys : List Int) (w : World) (hx : Ins w A n xs) (hy : Ins w B m ys) (hm : n ≤ maxLen) : Calls Tryz.prog 39 #[.slice A n c, .slice B m d] w fun e w' => e = .returned (.bool (decide (xs = ys))) ∧ Below w.heap.size w w' :=
  (ieq_any A B n c m d xs ys w hx hy hm).mono fun e w' h => h.below
theorem isame_b (A B : Option Addr) (n c m d : Nat) (xs ys : List Int) (w : World) (hx : Ins w A n xs) (hy : Ins w B m ys) (hm : n ≤ maxLen) : Calls Tryz.prog 29 #[.slice A n c, .slice B m d] w fun e w' => e = .returned (.bool (decide (xs = ys))) ∧ Below w.heap.size w w' :=
  (isame_any A B n c m d xs ys w hx hy hm).mono fun e w' h => h.below
/-- A prepared text. -/
def prS (s : ByteArray) : ByteArray := ⟨(prepF s).toArray⟩
theorem prS_eq {s t : ByteArray} : prS s = prS t ↔ prepF s = prepF t := by
  unfold prS
  constructor
  · intro h
    have := congrArg ByteArray.data h
    simpa using this
  · intro h; rw [h]
theorem prep_b (s : ByteArray) (w : World) (hs : s.size ≤ 8796093022208) : Calls Tryz.prog 40 #[.string s] w fun e w' => e = .returned (.string (prS s)) ∧ Below w.heap.size w w' := prep_any s w hs
theorem str_ne {P Q : ByteArray} (h : ¬ P = Q) : ¬ P.toList = Q.toList := fun e => h (by
  apply ByteArray.ext
  apply Array.ext'
  rw [ByteArray.toList_eq, ByteArray.toList_eq] at e
  exact e)
theorem eqA_of {a b : At} : eqA a b = (decide (a.oid = b.oid) && decide (prS a.text = prS b.text)) := by
  unfold eqA
  congr 1
  exact decide_eq_decide.2 prS_eq.symm
set_option maxRecDepth 100000 in
set_option maxHeartbeats 4000000 in
theorem sameAttr_any (a b : At) (S T : Nat → Prop) (c0 c1 d0 d1 : Value) (w : World) (ha : atE.hold S w a [c0, c1]) (hb : atE.hold T w b [d0, d1]) (za : a.text.size ≤ 8796093022208) (zb : b.text.size ≤ 8796093022208) :
    Calls Tryz.prog 38 #[.agg #[c0, c1], .agg #[d0, d1]] w fun e w' => e = .returned (.bool (eqA a b)) ∧ Below w.heap.size w w' := by
  obtain ⟨_, _, e, A, la, ca, rfl, rfl, hx1, hx2, hx3, hx4, hx5⟩ := ha
  simp only [List.cons.injEq, and_true] at e
  obtain ⟨rfl, rfl⟩ := e
  obtain ⟨_, _, e, A', la', ca', rfl, rfl, hy1, hy2, hy3, hy4, hy5⟩ := hb
  simp only [List.cons.injEq, and_true] at e
  obtain ⟨rfl, rfl⟩ := e
  rw [eqA_of]
  have hE := fun W (hW : Below w.heap.size w W) => ieq_b A A' la ca la' ca' a.oid b.oid W (hx3.below hW) (hy3.below hW) (Nat.le_trans hx1 hx2)
  have hP := fun W => prep_b a.text W za
  have hQ := fun W => prep_b b.text W zb
  obtain ⟨o, ho⟩ : ∃ x, decide (a.oid = b.oid) = x := ⟨_, rfl⟩
  obtain ⟨P, hP0⟩ : ∃ x, prS a.text = x := ⟨_, rfl⟩
  obtain ⟨Q, hQ0⟩ : ∃ x, prS b.text = x := ⟨_, rfl⟩
  rw [ho, hP0, hQ0]
  rw [ho] at hE
  rw [hP0] at hP
  rw [hQ0] at hQ
  obtain ⟨s, hs⟩ : ∃ x, a.text = x := ⟨_, rfl⟩
  obtain ⟨t, ht⟩ : ∃ x, b.text = x := ⟨_, rfl⟩
  rw [hs] at hP ⊢
  rw [ht] at hQ ⊢
  obtain ⟨W0, hW0⟩ : ∃ x, (w.alloc (.cells #[.slice A la ca, .string s] 43)).alloc (.cells #[.slice A' la' ca', .string t] 43) = x := ⟨_, rfl⟩
  have hb0 : Below w.heap.size w W0 := by rw [← hW0]; exact (below_new _ _).alloc (by simp) _
  have p0 : W0.heap[w.heap.size + 1]? = some (.cells #[.slice A' la' ca', .string t] 43) := by rw [← hW0]; exact heap_is (by simp)
  have q0 : W0.heap[w.heap.size]? = some (.cells #[.slice A la ca, .string s] 43) := by rw [← hW0, heap_old_ _ _ (by simp)]; exact heap_new_ _ _
  have x0 : W0.cell? ⟨w.heap.size, 0, none⟩ = some (.slice A la ca) := (Lib.cell_of_heap q0 _).trans rfl
  have x1 : W0.cell? ⟨w.heap.size, 1, none⟩ = some (.string s) := (Lib.cell_of_heap q0 _).trans rfl
  have y0 : W0.cell? ⟨w.heap.size + 1, 0, none⟩ = some (.slice A' la' ca') := (Lib.cell_of_heap p0 _).trans rfl
  have y1 : W0.cell? ⟨w.heap.size + 1, 1, none⟩ = some (.string t) := (Lib.cell_of_heap p0 _).trans rfl
  have g0 := fun (d : Nat) (os : Array Obj) => cell_on (below_regrown W0 d os) x0
  have g1 := fun (d : Nat) (os : Array Obj) => cell_on (below_regrown W0 d os) x1
  have g2 := fun (d : Nat) (os : Array Obj) => cell_on (below_regrown W0 d os) y0
  have g3 := fun (d : Nat) (os : Array Obj) => cell_on (below_regrown W0 d os) y1
  have HE := Lib.hid (fun (d : Nat) (os : Array Obj) => hE _ (below_then hb0 (below_regrown W0 d os) (Nat.le_refl _)))
  have HP := Lib.hid hP
  have HQ := Lib.hid hQ
  have HB := Lib.hid hb0
  clear hE hP hQ hb0 p0 q0 x0 x1 y0 y1 hx1 hx2 hx3 hx4 hx5 hy1 hy2 hy3 hy4 hy5 ho hP0 hQ0 hs ht za zb
  by_cases hpq : P = Q
  · subst hpq
    cases o
    all_goals
      go_enter Tryz.func38, Tryz.ntmps38
      go_wp2_with fail
      try rw [hW0]
      (try clear hW0)
      try dsimp only
      refine wp_region_quiet_below (by kernel_rfl) (by kernel_rfl) ?_
      repeat (go_big_quiet_step ((first | (go_at_call 39; refine Calls.regrown_of (HE.out _ _)) | (go_at_call_of 40 s; refine Calls.regrown_of (HP.out _)) | (go_at_call_of 40 t; refine Calls.regrown_of (HQ.out _)))))
      refine wpQuiet_nil ?_
      intro _ hw'
      obtain ⟨⟨nq, osq⟩, hw''⟩ := hw'
      subst hw''
      go_wp2
      go_ret
      exact ⟨by first | rfl | simp, below_then HB.out (below_regrown _ _ _) (Nat.le_refl _)⟩
  · have hz1 := str_ne hpq
    have hz2 : (P.toList == Q.toList) = false := by simpa using hz1
    rw [decide_eq_false hpq, Bool.and_false]
    cases o
    all_goals
      go_enter Tryz.func38, Tryz.ntmps38
      go_wp2_with fail
      try rw [hW0]
      (try clear hW0)
      try dsimp only
      refine wp_region_quiet_below (by kernel_rfl) (by kernel_rfl) ?_
      repeat (go_big_quiet_step ((first | (go_at_call 39; refine Calls.regrown_of (HE.out _ _)) | (go_at_call_of 40 s; refine Calls.regrown_of (HP.out _)) | (go_at_call_of 40 t; refine Calls.regrown_of (HQ.out _)))))
      refine wpQuiet_nil ?_
      intro _ hw'
      obtain ⟨⟨nq, osq⟩, hw''⟩ := hw'
      subst hw''
      go_wp2
      go_ret
      exact ⟨by first | rfl | simp [hz1], below_then HB.out (below_regrown _ _ _) (Nat.le_refl _)⟩
end Go.Proofs.YthcancakkkjpaaaGreatDoor.nmc
