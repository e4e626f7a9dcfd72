/- Names held against one another: the program's Same and Under, the document's Same, Under and Alike. Names held against one another: the program's Same and Under. -/
import Derived.Test.YtdcpggodlggjjaaGreatDoorYd
import Derived.Test.YtdcpggodlggjjaaGreatDoorXe
import Derived.Lib.QuietBelow
import Derived.BigQuiet
namespace Go.Proofs.YtdcpggodlggjjaaGreatDoor.nmc
open Go.RowKit Go.Proofs.YtdcpggodlggjjaaGreatDoor.tlvc Go.Proofs.YtdcpggodlggjjaaGreatDoor.tlvd Go.Proofs.YtdcpggodlggjjaaGreatDoor.ndc Go.Proofs.YtdcpggodlggjjaaGreatDoor.txc Go.Proofs.YtdcpggodlggjjaaGreatDoor.txm Go.Proofs.YtdcpggodlggjjaaGreatDoor.intc Go.Proofs.YtdcpggodlggjjaaGreatDoor.intm
set_option linter.unusedVariables false
set_option linter.unusedSimpArgs false
theorem drewN_add (w : World) (q r : Nat) : (w.drewN q).drewN r = w.drewN (q + r) := by
 unfold World.drewN; simp [Nat.add_assoc]
theorem same_step {xs ys : List Int} {k : Nat} (h : xs.take k = ys.take k) (hx : k < xs.length) (hy : k < ys.length) (he : xs.getD k 0 = ys.getD k 0) : xs.take (k + 1) = ys.take (k + 1) := by
 rw [List.take_succ_eq_append_getElem hx, List.take_succ_eq_append_getElem hy, h]
 simp only [List.getD_eq_getElem?_getD, List.getElem?_eq_getElem hx, List.getElem?_eq_getElem hy, Option.getD_some] at he
 rw [he]
def SameB (w : World) (b : Bool) (e : Ending) (w' : World) : Prop := e = .returned (.bool b) ∧ ∃ q, w' = w.drewN q
theorem SameB.below {w : World} {b : Bool} {e : Ending} {w' : World} (h : SameB w b e w') : e = .returned (.bool b) ∧ Below w.heap.size w w' := by
 obtain ⟨h, q, rfl⟩ := h
 exact ⟨h, rfl, rfl, rfl, Nat.le_refl _, fun _ _ => rfl⟩
set_option maxHeartbeats 400000 in
theorem isame_any (A B : Option Addr) (n c m d : Nat) (xs ys : List Int) (w : World) (hx : Ins w A n xs) (hy : Ins w B m ys) (hm : n ≤ maxLen) :
 Calls Tryz.prog 31 #[.slice A n c, .slice B m d] w (SameB w (decide (xs = ys))) := by
 unfold maxLen at hm
 have hlx := hx.len
 have hly := hy.len
 by_cases hnm : n = m
 ·subst hnm
  have HX := Lib.hid hlx
  have HY := Lib.hid hly
  have hcx := Lib.hid hx.2.2
  have hcy := Lib.hid hy.2.2
  obtain ⟨R, hR⟩ : ∃ R, decide (xs = ys) = R := ⟨_, rfl⟩
  have HR := Lib.hid hR
  rw [hR]
  clear hlx hly hR
  go_enter Tryz.func31, Tryz.ntmps31
  go_wp2
  go_loopw [5] (fun x wr => ∃ k : Nat, x = .int .i64 k ∧ k ≤ n ∧ xs.take k = ys.take k ∧ ∃ q, wr = w.drewN q) (fun x _ => n - (intOf x).toNat)
  case atStart => exact ⟨0, rfl, by omega, rfl, 0, rfl⟩
  case round =>
   obtain ⟨k, rfl, hk, he, q, rfl⟩ := hrel
   by_cases hlt : k < n
   ·obtain ⟨b, off, rfl, _, hcl⟩ := hcx.out (by omega)
    obtain ⟨b2, off2, rfl, _, hcl2⟩ := hcy.out (by omega)
    have hc1 : ∀ q, (w.drewN q).cell? ⟨b, off + k, none⟩ = some (.int .i64 (xs.getD k 0)) := fun q => hcl k hlt
    have hc2 : ∀ q, (w.drewN q).cell? ⟨b2, off2 + k, none⟩ = some (.int .i64 (ys.getD k 0)) := fun q => hcl2 k hlt
    have hstep := same_step he (by rw [HX.out]; exact hlt) (by rw [HY.out]; exact hlt)
    obtain ⟨x, hxx⟩ : ∃ x, xs.getD k 0 = x := ⟨_, rfl⟩
    obtain ⟨y, hyy⟩ : ∃ y, ys.getD k 0 = y := ⟨_, rfl⟩
    have HE := Lib.hid he
    have HXX := Lib.hid hxx
    have HYY := Lib.hid hyy
    rw [hxx] at hc1
    rw [hyy] at hc2
    rw [hxx, hyy] at hstep
    have HS := Lib.hid hstep
    have hk0 : (k : Int) < n := by omega
    have hk1 : (0 : Int) ≤ k := by omega
    clear hcl hcl2 he hxx hyy hstep
    by_cases hxy : x = y
    ·subst hxy
     have hS2 := HS.out rfl
     have HS2 := Lib.hid hS2
     clear HS hS2
     go_wp2
     go_quiet (fail)
     go_wp2
     go_roundw
     case rel => exact ⟨k + 1, by go_num, by omega, HS2.out, _, rfl⟩
     case measure => simp [intOf]; omega
    ·have hne : (x != y) = true := by simpa using hxy
     have e : R = false := by
      rw [← HR.out]
      simp only [decide_eq_false_iff_not]
      intro h
      rw [h] at HXX
      exact hxy (HXX.out.symm.trans HYY.out)
     subst e
     clear hxy
     go_wp2
     go_quiet (fail)
     go_wp2
     go_ret
     exact ⟨rfl, _, drewN_add _ _ _⟩
   ·have e : R = true := by
     rw [← HR.out]
     simp only [decide_eq_true_eq]
     rwa [List.take_of_length_le (by rw [HX.out]; omega), List.take_of_length_le (by rw [HY.out]; omega)] at he
    subst e
    clear he
    go_wp2
    go_ret
    exact ⟨rfl, _, rfl⟩
 ·have e : decide (xs = ys) = false := by
   simp only [decide_eq_false_iff_not]
   intro h
   rw [h] at hlx
   exact hnm (hlx.symm.trans hly)
  have hne : ((n : Int) != m) = true := by simp only [bne_iff_ne, ne_eq]; omega
  have hne2 : (n != m) = true := by simpa using hnm
  rw [e]
  clear e hlx hly hnm
  go_enter Tryz.func31, Tryz.ntmps31
  go_wp2
  go_ret
  exact ⟨rfl, 0, rfl⟩
set_option maxHeartbeats 400000 in
theorem ieq_any (A B : Option Addr) (n c m d : Nat) (xs ys : List Int) (w : World) (hx : Ins w A n xs) (hy : Ins w B m ys) (hm : n ≤ maxLen) :
 Calls Tryz.prog 37 #[.slice A n c, .slice B m d] w (SameB w (decide (xs = ys))) := by
 unfold maxLen at hm
 have hlx := hx.len
 have hly := hy.len
 by_cases hnm : n = m
 ·subst hnm
  have HX := Lib.hid hlx
  have HY := Lib.hid hly
  have hcx := Lib.hid hx.2.2
  have hcy := Lib.hid hy.2.2
  obtain ⟨R, hR⟩ : ∃ R, decide (xs = ys) = R := ⟨_, rfl⟩
  have HR := Lib.hid hR
  rw [hR]
  clear hlx hly hR
  go_enter Tryz.func37, Tryz.ntmps37
  go_wp2
  go_loopw [13] (fun x wr => ∃ k : Nat, x = .int .i64 k ∧ k ≤ n ∧ xs.take k = ys.take k ∧ ∃ q, wr = w.drewN q) (fun x _ => n - (intOf x).toNat)
  case atStart => exact ⟨0, rfl, by omega, rfl, 0, rfl⟩
  case round =>
   obtain ⟨k, rfl, hk, he, q, rfl⟩ := hrel
   by_cases hlt : k < n
   ·obtain ⟨b, off, rfl, _, hcl⟩ := hcx.out (by omega)
    obtain ⟨b2, off2, rfl, _, hcl2⟩ := hcy.out (by omega)
    have hc1 : ∀ q, (w.drewN q).cell? ⟨b, off + k, none⟩ = some (.int .i64 (xs.getD k 0)) := fun q => hcl k hlt
    have hc2 : ∀ q, (w.drewN q).cell? ⟨b2, off2 + k, none⟩ = some (.int .i64 (ys.getD k 0)) := fun q => hcl2 k hlt
    have hstep := same_step he (by rw [HX.out]; exact hlt) (by rw [HY.out]; exact hlt)
    obtain ⟨x, hxx⟩ : ∃ x, xs.getD k 0 = x := ⟨_, rfl⟩
    obtain ⟨y, hyy⟩ : ∃ y, ys.getD k 0 = y := ⟨_, rfl⟩
    have HE := Lib.hid he
    have HXX := Lib.hid hxx
    have HYY := Lib.hid hyy
    rw [hxx] at hc1
    rw [hyy] at hc2
    rw [hxx, hyy] at hstep
    have HS := Lib.hid hstep
    have hk0 : (k : Int) < n := by omega
    have hk1 : (0 : Int) ≤ k := by omega
    clear hcl hcl2 he hxx hyy hstep
    by_cases hxy : x = y
    ·subst hxy
     have hS2 := HS.out rfl
     have HS2 := Lib.hid hS2
     clear HS hS2
     go_wp2
     go_quiet (fail)
     go_wp2
     go_roundw
     case rel => exact ⟨k + 1, by go_num, by omega, HS2.out, _, rfl⟩
     case measure => simp [intOf]; omega
    ·have hne : (x != y) = true := by simpa using hxy
     have e : R = false := by
      rw [← HR.out]
      simp only [decide_eq_false_iff_not]
      intro h
      rw [h] at HXX
      exact hxy (HXX.out.symm.trans HYY.out)
     subst e
     clear hxy
     go_wp2
     go_quiet (fail)
     go_wp2
     go_ret
     exact ⟨rfl, _, drewN_add _ _ _⟩
   ·have e : R = true := by
     rw [← HR.out]
     simp only [decide_eq_true_eq]
     rwa [List.take_of_length_le (by rw [HX.out]; omega), List.take_of_length_le (by rw [HY.out]; omega)] at he
    subst e
    clear he
    go_wp2
    go_ret
    exact ⟨rfl, _, rfl⟩
 ·have e : decide (xs = ys) = false := by
   simp only [decide_eq_false_iff_not]
   intro h
   rw [h] at hlx
   exact hnm (hlx.symm.trans hly)
  have hne : ((n : Int) != m) = true := by simp only [bne_iff_ne, ne_eq]; omega
  have hne2 : (n != m) = true := by simpa using hnm
  rw [e]
  clear e hlx hly hnm
  go_enter Tryz.func37, Tryz.ntmps37
  go_wp2
  go_ret
  exact ⟨rfl, 0, rfl⟩
theorem ieq_b (A B : Option Addr) (n c m d : Nat) (xs ys : List Int) (w : World) (hx : Ins w A n xs) (hy : Ins w B m ys) (hm : n ≤ maxLen) : Calls Tryz.prog 37 #[.slice A n c, .slice B m d] w fun e w' => e = .returned (.bool (decide (xs = ys))) ∧ Below w.heap.size w w' :=
 (ieq_any A B n c m d xs ys w hx hy hm).mono fun e w' h => h.below
end Go.Proofs.YtdcpggodlggjjaaGreatDoor.nmc
namespace Go.Proofs.YtdcpggodlggjjaaGreatDoor.nmc
open Go.RowKit Go.Proofs.YtdcpggodlggjjaaGreatDoor.tlvc Go.Proofs.YtdcpggodlggjjaaGreatDoor.tlvd Go.Proofs.YtdcpggodlggjjaaGreatDoor.ndc Go.Proofs.YtdcpggodlggjjaaGreatDoor.txc Go.Proofs.YtdcpggodlggjjaaGreatDoor.txm Go.Proofs.YtdcpggodlggjjaaGreatDoor.intc Go.Proofs.YtdcpggodlggjjaaGreatDoor.intm
set_option linter.unusedVariables false
set_option linter.unusedSimpArgs false
section
variable {α : Type} {p : α → α → Bool}
end
end Go.Proofs.YtdcpggodlggjjaaGreatDoor.nmc
