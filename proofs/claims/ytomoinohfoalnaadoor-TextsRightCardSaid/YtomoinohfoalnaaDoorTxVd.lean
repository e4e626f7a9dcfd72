/- The document's Right, for every tag. -/
import Derived.Test.YtomoinohfoalnaaDoorTxVb
import Derived.Test.YtomoinohfoalnaaDoorTxVc
namespace Go.Proofs.YtomoinohfoalnaaDoor.txc
open Go.RowKit Go.Proofs.YtomoinohfoalnaaDoor.txm Go.Proofs.YtomoinohfoalnaaDoor.tlvc
set_option linter.unusedVariables false
set_option maxRecDepth 100000 in
set_option maxHeartbeats 4000000 in
theorem refRight_any (t : Int) (A : Option Addr) (n c : Nat) (xs : List Int) (w : World) (hx : Bys w A n xs) (hc : n ≤ c) (hn : c ≤ maxLen) (hT : Tabs w) :
    Calls Tryd.prog 13 #[.int .u8 t, .slice A n c] w fun e w' => e = .returned (.bool (rightD t xs)) ∧ Below w.heap.size w w' := by
  unfold rightD
  by_cases h12 : t = 12
  · subst h12
    rw [if_pos rfl]
    have hv := validB_any A n c (strOfNums xs) w (TB.of_bys hx) hc hn hT
    have e : Lib.validD (strOfNums xs).data.toList = utfB xs := rfl
    rw [e] at hv
    obtain ⟨u, hu⟩ : ∃ u, utfB xs = u := ⟨_, rfl⟩
    rw [hu] at hv ⊢
    have HV := Lib.hid hv
    clear hv hu e
    go_enter Tryd.func13, Tryd.ntmps13
    go_wp2_with fail
    refine HV.out.mono ?_
    rintro e w' ⟨rfl, hb⟩
    go_wp2
    go_ret
    exact ⟨rfl, hb⟩
  · rw [if_neg h12]
    by_cases ht : t = 19 ∨ t = 22 ∨ t = 27
    · exact (refRight_low t ht A n c xs w hx (Nat.le_trans hc hn)).mono fun e w' ⟨h1, h2⟩ => ⟨h1, h2 ▸ Below.refl _ _⟩
    · unfold rightB
      rw [if_neg ht]
      have h12b : (t == 12) = false := by simpa using h12
      have h19 : ¬ t = 19 := fun h => ht (.inl h)
      have h22 : ¬ t = 22 := fun h => ht (.inr (.inl h))
      have h27 : ¬ t = 27 := fun h => ht (.inr (.inr h))
      have n19 : (t != 19) = true := by simpa using h19
      have n22 : (t != 22) = true := by simpa using h22
      have n27 : (t != 27) = true := by simpa using h27
      clear ht
      go_enter Tryd.func13, Tryd.ntmps13
      go_wp2
      go_ret
      exact ⟨rfl, Below.refl _ _⟩
end Go.Proofs.YtomoinohfoalnaaDoor.txc
