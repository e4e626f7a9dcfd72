/- The program's Right. -/
import Derived.Test.YtomoinohfoalnaaDoorTxU
import Derived.Test.YtomoinohfoalnaaDoorTxR
import Derived.Test.YtomoinohfoalnaaDoorTxG
namespace Go.Proofs.YtomoinohfoalnaaDoor.txc
open Go.RowKit Go.Proofs.YtomoinohfoalnaaDoor.txm Go.Proofs.YtomoinohfoalnaaDoor.tlvc
set_option linter.unusedVariables false

theorem all19 (s : ByteArray) (w : World) (hs : s.size ≤ 9223372036854775807) :
    Calls Tryd.prog 25 #[.string s, .func (.func 26) #[] #[]] w fun e w' => e = .returned (.bool ((runes s).all (okR 19))) ∧ Below w.heap.size w w' :=
  all_any (okR 19) 26 s w hs (enters_of Tryd.func26 (by kernel_rfl) rfl) fun r w => print_any r w
theorem all22 (s : ByteArray) (w : World) (hs : s.size ≤ 9223372036854775807) :
    Calls Tryd.prog 25 #[.string s, .func (.func 27) #[] #[]] w fun e w' => e = .returned (.bool ((runes s).all (okR 22))) ∧ Below w.heap.size w w' :=
  all_any (okR 22) 27 s w hs (enters_of Tryd.func27 (by kernel_rfl) rfl) fun r w => lit22_any r w
theorem all27 (s : ByteArray) (w : World) (hs : s.size ≤ 9223372036854775807) :
    Calls Tryd.prog 25 #[.string s, .func (.func 28) #[] #[]] w fun e w' => e = .returned (.bool ((runes s).all (okR 27))) ∧ Below w.heap.size w w' :=
  all_any (okR 27) 28 s w hs (enters_of Tryd.func28 (by kernel_rfl) rfl) fun r w => lit27_any r w

/-- May these bytes be a text of this tag, but for UTF-8? -/
def rightB (t : Int) (xs : List Int) : Bool := if t = 19 ∨ t = 22 ∨ t = 27 then (runes (strOfNums xs)).all (okR t) else false

set_option maxRecDepth 100000 in
set_option maxHeartbeats 400000 in
theorem right_any (t : Int) (A : Option Addr) (n c : Nat) (xs : List Int) (w : World) (ht : t ≠ 12) (hx : Bys w A n xs) (hn : n ≤ maxLen) :
    Calls Tryd.prog 12 #[.int .u8 t, .slice A n c] w fun e w' => e = .returned (.bool (rightB t xs)) ∧ Below w.heap.size w w' := by
  have hcv := str_now hx c
  have hsz : (strOfNums xs).size ≤ 9223372036854775807 := by rw [strOfNums_size, hx.1]; exact hn
  obtain ⟨s, hs⟩ : ∃ s, strOfNums xs = s := ⟨_, rfl⟩
  unfold rightB
  rw [hs] at hcv hsz ⊢
  clear hs
  have h12 : (t == 12) = false := by simpa using ht
  by_cases h19 : t = 19
  · subst h19
    rw [if_pos (.inl rfl)]
    go_enter Tryd.func12, Tryd.ntmps12
    go_wp2_with fail
    refine (all19 _ _ hsz).mono ?_
    rintro e w' ⟨rfl, hb⟩
    go_wp2
    go_ret
    exact ⟨rfl, hb⟩
  · have h19b : (t == 19) = false := by simpa using h19
    by_cases h22 : t = 22
    · subst h22
      rw [if_pos (.inr (.inl rfl))]
      go_enter Tryd.func12, Tryd.ntmps12
      go_wp2_with fail
      refine (all22 _ _ hsz).mono ?_
      rintro e w' ⟨rfl, hb⟩
      go_wp2
      go_ret
      exact ⟨rfl, hb⟩
    · have h22b : (t == 22) = false := by simpa using h22
      by_cases h27 : t = 27
      · subst h27
        rw [if_pos (.inr (.inr rfl))]
        go_enter Tryd.func12, Tryd.ntmps12
        go_wp2_with fail
        refine (all27 _ _ hsz).mono ?_
        rintro e w' ⟨rfl, hb⟩
        go_wp2
        go_ret
        exact ⟨rfl, hb⟩
      · have h27b : (t == 27) = false := by simpa using h27
        rw [if_neg (by rintro (h | h | h) <;> contradiction)]
        clear h19 h22 h27 ht
        go_enter Tryd.func12, Tryd.ntmps12
        go_wp2
        go_ret
        exact ⟨rfl, Below.refl _ _⟩
end Go.Proofs.YtomoinohfoalnaaDoor.txc
