/- The document's own numbers of two digits; its PutTime for all. -/
import Derived.Test.YtajiolcdjjkedaaDoorTxJ
import Derived.BigQuiet
import Derived.Deep.QuietTactic
namespace Go.Proofs.YtajiolcdjjkedaaDoor.txm
/-- Two digits' number; below 0: there is none. -/
def dig2 (a b : Int) : Int := if (48 ≤ a ∧ a ≤ 57) ∧ (48 ≤ b ∧ b ≤ 57) then 10 * (a - 48) + (b - 48) else -1
theorem dig2_bd (a b : Int) : -1 ≤ dig2 a b ∧ dig2 a b ≤ 99 := by unfold dig2; split <;> omega
end Go.Proofs.YtajiolcdjjkedaaDoor.txm
namespace Go.Proofs.YtajiolcdjjkedaaDoor.txc
open Go.RowKit Go.Proofs.YtajiolcdjjkedaaDoor.txm Go.Proofs.YtajiolcdjjkedaaDoor.tlvc
set_option linter.unusedVariables false

theorem refPutTime_out (sec : Int) (w : World) (h : sec < -631152000 ∨ 253402300799 < sec) :
    Calls Tryd.prog 18 #[.int .i64 sec] w (Put w 0 [] 32) := by
  have fin : Put w 0 [] 32 (.returned (.tuple #[.int .u8 0, .slice none 0 0, .int .i64 32])) w := ⟨none, 0, rfl, ⟨Bys.nil_ _ _, Nat.le_refl _, Nat.zero_le _, fun _ _ h => by cases h⟩, Below.refl _ _⟩
  rcases h with h | h
  · go_enter Tryd.func18, Tryd.ntmps18
    go_wp2
    go_ret3
    exact fin
  · have h' : ¬ sec < -631152000 := by omega
    go_enter Tryd.func18, Tryd.ntmps18
    go_wp2
    go_ret3
    exact fin
theorem refPutTime_any (sec : Int) (w : World) : Calls Tryd.prog 18 #[.int .i64 sec] w (Put w (putT sec) (putB sec) (putE sec)) := by
  unfold putT putB putE
  by_cases h : InR sec
  · rw [if_pos h, if_pos h, if_pos h]; exact refPutTime_in sec w h
  · rw [if_neg h, if_neg h, if_neg h]; exact refPutTime_out sec w (out_of h)

set_option maxRecDepth 100000 in
set_option maxHeartbeats 1000000 in
theorem number_any (A : Option Addr) (n c k : Nat) (xs : List Int) (w : World) (hx : Bys w A n xs) (hk : k + 1 < n) (hn : n ≤ 1000) :
    Calls Tryd.prog 44 #[.slice A n c, .int .i64 k] w fun e w' => e = .returned (.int .i64 (dig2 (xs.getD k 0) (xs.getD (k + 1) 0))) ∧ Below w.heap.size w w' := by
  obtain ⟨b, off, rfl, hblt, hcells⟩ := hx.2.2 (by omega)
  have h0 := hcells k (by omega)
  have h1 := hcells (k + 1) hk
  have f0 := hx.2.1.getD k
  have f1 := hx.2.1.getD (k + 1)
  obtain ⟨a, ha⟩ : ∃ a, xs.getD k 0 = a := ⟨_, rfl⟩
  obtain ⟨d, hd⟩ : ∃ d, xs.getD (k + 1) 0 = d := ⟨_, rfl⟩
  rw [ha] at h0 f0 ⊢
  rw [hd] at h1 f1 ⊢
  obtain ⟨f0, f0'⟩ := f0
  obtain ⟨f1, f1'⟩ := f1
  have hk0 : (0 : Int) ≤ (k : Int) := by omega
  have hkn : (k : Int) < n := by omega
  have hkn' : k < n := by omega
  have hk1 : (k : Int) + 1 < n := by omega
  have hkt : ((k : Int) + 1).toNat = k + 1 := by omega
  have hk10 : (0 : Int) ≤ (k : Int) + 1 := by omega
  obtain ⟨R, hR⟩ : ∃ R, dig2 a d = R := ⟨_, rfl⟩
  rw [hR]
  have hno : ¬ ((48 ≤ a ∧ a ≤ 57) ∧ (48 ≤ d ∧ d ≤ 57)) → R = -1 := fun h => by rw [← hR]; exact if_neg h
  have hyes : (48 ≤ a ∧ a ≤ 57) ∧ (48 ≤ d ∧ d ≤ 57) → R = 10 * (a - 48) + (d - 48) := fun h => by rw [← hR]; exact if_pos h
  clear ha hd hcells hx hR hblt
  by_cases a1 : a < 48
  · have hr := hno (by omega)
    subst hr
    clear hno hyes
    go_enter Tryd.func44, Tryd.ntmps44
    go_wp2
    go_ret
    exact ⟨rfl, Below.refl _ _⟩
  · by_cases a2 : 57 < a
    · have hr := hno (by omega)
      subst hr
      clear hno hyes
      go_enter Tryd.func44, Tryd.ntmps44
      go_wp2
      go_ret
      exact ⟨rfl, Below.refl _ _⟩
    · by_cases d1 : d < 48
      · have hr := hno (by omega)
        subst hr
        clear hno hyes
        go_enter Tryd.func44, Tryd.ntmps44
        go_wp2
        go_ret
        exact ⟨rfl, Below.refl _ _⟩
      · by_cases d2 : 57 < d
        · have hr := hno (by omega)
          subst hr
          clear hno hyes
          go_enter Tryd.func44, Tryd.ntmps44
          go_wp2
          go_ret
          exact ⟨rfl, Below.refl _ _⟩
        · have hr := hyes (by omega)
          subst hr
          have hw0 : IntKind.u8.wrap (a - 48) = a - 48 := by show (a - 48) % 256 = a - 48; omega
          have hw1 : IntKind.u8.wrap (d - 48) = d - 48 := by show (d - 48) % 256 = d - 48; omega
          have hw2 : IntKind.i64.wrap (a - 48) = a - 48 := IntWalk.i64_in _ (by omega)
          have hw3 : IntKind.i64.wrap (d - 48) = d - 48 := IntWalk.i64_in _ (by omega)
          have hw4 : IntKind.i64.wrap (10 * (a - 48)) = 10 * (a - 48) := IntWalk.i64_in _ (by omega)
          have hw5 : IntKind.i64.wrap (10 * (a - 48) + (d - 48)) = 10 * (a - 48) + (d - 48) := IntWalk.i64_in _ (by omega)
          have hw6 : IntKind.i64.wrap ((k : Int) + 1) = k + 1 := IntWalk.i64_in _ (by omega)
          clear hno hyes
          go_enter Tryd.func44, Tryd.ntmps44
          go_wp2_with fail
          go_quiet (fail)
          go_wp2
          go_ret
          exact ⟨rfl, below_drewN _⟩
end Go.Proofs.YtajiolcdjjkedaaDoor.txc
