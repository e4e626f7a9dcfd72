/- The program's Bits. A mask's body, by the document. The document's Bits. -/
import Derived.Test.YtdcpggodlggjjaaGreatDoorIe
import Derived.Test.YtdcpggodlggjjaaGreatDoorIb
import Derived.Lib.EndianBits
import Derived.StillTailTactics
import Derived.Deep.RegionWith
namespace Go.Proofs.YtdcpggodlggjjaaGreatDoor.intc
open Go.RowKit Go.Proofs.YtdcpggodlggjjaaGreatDoor.tlvc Go.Proofs.YtdcpggodlggjjaaGreatDoor.intm
set_option linter.unusedVariables false
/-! asWritten, sure and its closure, for uint16. -/
theorem sureBits_any (w : World) :
 Calls Tryz.prog 115 #[.func (.func 46) #[] #[]] w fun e w' => e = .returned (.func (.func 162) #[] #[.pointer (some ⟨w.heap.size, 0, none⟩)]) ∧ w' = w.alloc (.cells #[.func (.func 46) #[] #[]] 87) := by
 have hmf : ∀ (fn : Fn) (first cap : Array Value) (w : World), (Instr.makeFunc fn first cap).run Tryz.prog w = .ok (.func fn first cap) w := fun _ _ _ _ => rfl
 go_enter Tryz.func115, Tryz.ntmps115
 go_wp2
 go_ret
 exact ⟨rfl, rfl⟩
theorem surelyBits_any (t : Int) (ht : U16 t) (p : Nat) (w : World) (hp : w.cell? ⟨p, 0, none⟩ = some (.func (.func 46) #[] #[])) :
 Calls Tryz.prog 162 #[(.int .u16 t), .pointer (some ⟨p, 0, none⟩)] w (Made2 w (putM t)) := by
 go_enter Tryz.func162, Tryz.ntmps162
 go_wp2_with fail
 refine (putBits_any _ _ ht).mono ?_
 rintro e w1 ⟨A, c, rfl, hh, hb⟩
 go_wp2_with fail
 go_ret2
 exact ⟨A, c, rfl, hh, hb⟩
set_option maxHeartbeats 400000 in
theorem asBits_yes (A : Option Addr) (n c : Nat) (xs : List Int) (t : Int) (ht : U16 t) (p : Nat) (q : Int) (w : World) (hb : Bys w A n xs) (hp : w.cell? ⟨p, 0, none⟩ = some (.func (.func 46) #[] #[])) (h : putM t = xs) :
 Calls Tryz.prog 113 #[.slice A n c, (.int .u16 t), .int .i64 q, .func (.func 162) #[] #[.pointer (some ⟨p, 0, none⟩)]] w fun e w' => e = .returned (.tuple #[(.int .u16 t), .int .i64 0]) ∧ Below w.heap.size w w' := by
 have hs : sameB (putM t) xs = true := (sameB_iff (putM_bytes t ht) hb.fit).2 h
 have H := Lib.hid h
 clear h
 go_enter Tryz.func113, Tryz.ntmps113
 go_wp2_with fail
 refine (surelyBits_any t ht p _ hp).mono ?_
 rintro e w1 ⟨A1, c1, rfl, hh, hbel⟩
 go_wp2_with fail
 refine (equal_any _ _ _ _ _ _ _ _ _ hh.1 (hb.below hbel)).mono ?_
 rw [hs]
 rintro e w2 ⟨rfl, rfl⟩
 go_wp2_with fail
 go_ret2
 exact ⟨rfl, hbel⟩
set_option maxHeartbeats 400000 in
theorem asBits_no (A : Option Addr) (n c : Nat) (xs : List Int) (t : Int) (ht : U16 t) (p : Nat) (q : Int) (w : World) (hb : Bys w A n xs) (hp : w.cell? ⟨p, 0, none⟩ = some (.func (.func 46) #[] #[])) (h : ¬ putM t = xs) :
 Calls Tryz.prog 113 #[.slice A n c, (.int .u16 t), .int .i64 q, .func (.func 162) #[] #[.pointer (some ⟨p, 0, none⟩)]] w fun e w' => e = .returned (.tuple #[(.int .u16 0), .int .i64 q]) ∧ Below w.heap.size w w' := by
 have hs : sameB (putM t) xs = false := sameB_no (putM_bytes t ht) hb.fit h
 clear h
 go_enter Tryz.func113, Tryz.ntmps113
 go_wp2_with fail
 refine (surelyBits_any t ht p _ hp).mono ?_
 rintro e w1 ⟨A1, c1, rfl, hh, hbel⟩
 go_wp2_with fail
 refine (equal_any _ _ _ _ _ _ _ _ _ hh.1 (hb.below hbel)).mono ?_
 rw [hs]
 rintro e w2 ⟨rfl, rfl⟩
 go_wp2_with fail
 go_ret2
 exact ⟨rfl, hbel⟩
theorem or16_zero {y : Int} (h0 : 0 ≤ y) (h : y ≤ 255) : bits .or .u16 0 y = y := by
 have := bits_join_low .u16 16 (by decide) (fun n h₀ h₁ => by rw [IntKind.wrap_u16]; omega) 0 0 y (by decide) (by decide) (by decide) h0 (by omega) (by omega)
 omega
theorem or16_high {y z : Int} (h0 : 0 ≤ y) (h : y ≤ 255) (h1 : 0 ≤ z) (h2 : z ≤ 255) : bits .or .u16 y (z * 256) = y + 256 * z := by
 have := bits_join_low .u16 16 (by decide) (fun n h₀ h₁ => by rw [IntKind.wrap_u16]; omega) 8 y (z * 256) h0 (by omega) (by omega) (by omega) (by omega) (by omega)
 omega
theorem cell_at {w : World} {b off n k : Nat} {xs : List Int} (h : Bys w (some ⟨b, off, none⟩) n xs) (hk : k < n) : w.cell? ⟨b, off + k, none⟩ = some (.int .u8 (xs.getD k 0)) := by
 obtain ⟨b', off', e, _, hc⟩ := h.2.2 (by omega)
 cases e
 exact hc k hk
def QuietM (w : World) (m : Int) (e : Ending) (w' : World) : Prop := e = .returned (.int .u16 m) ∧ w = w'
set_option maxHeartbeats 1000000 in
theorem maskOf_any (A : Option Addr) (n c : Nat) (xs : List Int) (w : World) (hb : Bys w A n xs) (hc : n ≤ c) (hm : c ≤ maxLen) :
 Calls Tryz.prog 114 #[.slice A n c] w (QuietM w (maskF (xs.take 3))) := by
 unfold maxLen at hm
 have hlen := hb.len
 have hmax : max (3 : Int) 0 = 3 := by decide
 match xs, hlen with
 | [], hlen =>
  obtain rfl : n = 0 := by simpa using hlen.symm
  clear hlen
  go_enter Tryz.func114, Tryz.ntmps114
  go_wp2
  refine wp_loop_rounds 1 ?_
  rw [rounds_succ]
  go_wp2
  go_ret
  exact ⟨rfl, rfl⟩
 | [x], hlen =>
  obtain rfl : n = 1 := by simpa using hlen.symm
  obtain ⟨b, off, rfl, _, _⟩ := hb.2.2 (by decide)
  have h0 := cell_at hb (k := 0) (by decide)
  rw [Nat.add_zero] at h0
  simp only [List.getD_cons_zero] at h0
  clear hlen
  go_enter Tryz.func114, Tryz.ntmps114
  go_wp2
  refine wp_loop_rounds 2 ?_
  rw [rounds_succ]
  go_wp2
  rw [rounds_succ]
  go_wp2
  go_ret
  exact ⟨rfl, rfl⟩
 | [x, y], hlen =>
  obtain rfl : n = 2 := by simpa using hlen.symm
  obtain ⟨b, off, rfl, _, _⟩ := hb.2.2 (by decide)
  have h0 := cell_at hb (k := 0) (by decide)
  have h1 := cell_at hb (k := 1) (by decide)
  rw [Nat.add_zero] at h0
  simp only [List.getD_cons_zero, List.getD_cons_succ] at h0 h1
  have hy := hb.fit y (by simp)
  have hr := rv_bd y
  have hor := or16_zero hr.1 hr.2
  clear hlen
  go_enter Tryz.func114, Tryz.ntmps114
  go_wp2
  refine wp_loop_rounds 3 ?_
  rw [rounds_succ]
  go_wp2
  rw [rounds_succ]
  go_wp2_with fail
  refine (rev8_any y _ hy.1 hy.2).mono ?_
  rintro e w' ⟨rfl, rfl⟩
  go_wp2
  rw [rounds_succ]
  go_wp2
  go_ret
  exact ⟨rfl, rfl⟩
 | x :: y :: z :: r, hlen =>
  have hn : 3 ≤ n := by rw [← hlen]; simp
  obtain ⟨b, off, rfl, _, _⟩ := hb.2.2 (by omega)
  have h0 := cell_at hb (k := 0) (by omega)
  have h1 := cell_at hb (k := 1) (by omega)
  have h2 := cell_at hb (k := 2) (by omega)
  rw [Nat.add_zero] at h0
  simp only [List.getD_cons_zero, List.getD_cons_succ] at h0 h1 h2
  have hy := hb.fit y (by simp)
  have hz := hb.fit z (by simp)
  have hr := rv_bd y
  have hr2 := rv_bd z
  have hor := or16_zero hr.1 hr.2
  have hor2 := or16_high hr.1 hr.2 hr2.1 hr2.2
  have hm3 : min (n : Int) 3 = 3 := by omega
  clear hlen
  by_cases hn3 : n = 3
  ·subst hn3
   go_enter Tryz.func114, Tryz.ntmps114
   go_wp2
   refine wp_loop_rounds 4 ?_
   rw [rounds_succ]
   go_wp2
   rw [rounds_succ]
   go_wp2_with fail
   refine (rev8_any y _ hy.1 hy.2).mono ?_
   rintro e w' ⟨rfl, rfl⟩
   go_wp2
   rw [rounds_succ]
   go_wp2_with fail
   refine (rev8_any z _ hz.1 hz.2).mono ?_
   rintro e w' ⟨rfl, rfl⟩
   go_wp2
   rw [rounds_succ]
   go_wp2
   go_ret
   exact ⟨rfl, rfl⟩
  ·have hn4 : 3 < n := by omega
   go_enter Tryz.func114, Tryz.ntmps114
   go_wp2
   refine wp_loop_rounds 4 ?_
   rw [rounds_succ]
   go_wp2
   rw [rounds_succ]
   go_wp2_with fail
   refine (rev8_any y _ hy.1 hy.2).mono ?_
   rintro e w' ⟨rfl, rfl⟩
   go_wp2
   rw [rounds_succ]
   go_wp2_with fail
   refine (rev8_any z _ hz.1 hz.2).mono ?_
   rintro e w' ⟨rfl, rfl⟩
   go_wp2
   rw [rounds_succ]
   go_wp2
   go_ret
   exact ⟨rfl, rfl⟩
set_option maxHeartbeats 400000 in
theorem bits_any (A : Option Addr) (n c : Nat) (xs : List Int) (w : World) (hb : Bys w A n xs) (hc : n ≤ c) (hm : c ≤ maxLen) :
 Calls Tryz.prog 48 #[.slice A n c] w (Told w (.int .u16 (bitsF xs).1) (bitsF xs).2) := by
 have ht := maskF_u16 (xs.take 3)
 have hcell : ∀ w : World, (w.alloc (.cells #[.func (.func 46) #[] #[]] 87)).cell? ⟨w.heap.size, 0, none⟩ = some (.func (.func 46) #[] #[]) := fun w => by simp
 by_cases h : putM (maskF (xs.take 3)) = xs
 ·have e : bitsF xs = (maskF (xs.take 3), 0) := by unfold bitsF; rw [if_pos h]
  rw [e]
  have H := Lib.hid h
  have HC := Lib.hid hcell
  clear h e hcell
  go_enter Tryz.func48, Tryz.ntmps48
  go_wp2_with fail
  refine (maskOf_any _ _ _ _ _ hb hc hm).mono ?_
  rintro e w' ⟨rfl, rfl⟩
  go_wp2_with fail
  refine (sureBits_any _).mono ?_
  rintro e w' ⟨rfl, rfl⟩
  go_wp2_with fail
  refine (asBits_yes _ _ _ _ _ ht _ _ _ (hb.alloc _) (HC.out _) H.out).mono ?_
  rintro e w' ⟨rfl, hbel⟩
  go_wp2_with fail
  go_ret2
  exact ⟨rfl, ((Below.refl _ _).alloc (Nat.le_refl _) _).trans (hbel.mono (by simp))⟩
 ·have e : bitsF xs = (0, 24) := by unfold bitsF; rw [if_neg h]
  rw [e]
  have H := Lib.hid h
  have HC := Lib.hid hcell
  clear h e hcell
  go_enter Tryz.func48, Tryz.ntmps48
  go_wp2_with fail
  refine (maskOf_any _ _ _ _ _ hb hc hm).mono ?_
  rintro e w' ⟨rfl, rfl⟩
  go_wp2_with fail
  refine (sureBits_any _).mono ?_
  rintro e w' ⟨rfl, rfl⟩
  go_wp2_with fail
  refine (asBits_no _ _ _ _ _ ht _ _ _ (hb.alloc _) (HC.out _) H.out).mono ?_
  rintro e w' ⟨rfl, hbel⟩
  go_wp2_with fail
  go_ret2
  exact ⟨rfl, ((Below.refl _ _).alloc (Nat.le_refl _) _).trans (hbel.mono (by simp))⟩
end Go.Proofs.YtdcpggodlggjjaaGreatDoor.intc
namespace Go.Proofs.YtdcpggodlggjjaaGreatDoor.intc
open Go.RowKit Go.Proofs.YtdcpggodlggjjaaGreatDoor.tlvc Go.Proofs.YtdcpggodlggjjaaGreatDoor.intm
set_option linter.unusedVariables false
end Go.Proofs.YtdcpggodlggjjaaGreatDoor.intc
namespace Go.Proofs.YtdcpggodlggjjaaGreatDoor.intc
open Go.RowKit Go.Proofs.YtdcpggodlggjjaaGreatDoor.tlvc Go.Proofs.YtdcpggodlggjjaaGreatDoor.intm
set_option linter.unusedVariables false
end Go.Proofs.YtdcpggodlggjjaaGreatDoor.intc
