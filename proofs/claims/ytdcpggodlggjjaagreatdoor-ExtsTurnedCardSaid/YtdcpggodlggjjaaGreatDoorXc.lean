/- The program's Right. A world in which the library's two tables lie as its text lays them: the witness of each row that lists them. What the rows' list gives: the library's two tables; strings among the arguments. The program's Right for UTF-8; which texts are of several tags: plain facts. The document's Right: bytes against runes; its own printable. -/
import Derived.Test.YtdcpggodlggjjaaGreatDoorXa
import Derived.Test.YtdcpggodlggjjaaGreatDoorXb
import Derived.Test.YtdcpggodlggjjaaGreatDoorRows
import Derived.ProofKit
import Derived.Deep.DeepHandedRow
import Derived.Lib.LaidTab
import Derived.Test.YtdcpggodlggjjaaGreatDoorKb
import Derived.Test.YtdcpggodlggjjaaGreatDoorShelf
import Derived.Lib.LaidU8T
import Derived.MakeChecks
import Derived.Lib.ValidLaws
import Derived.Lib.DecodeN
namespace Go.Proofs.YtdcpggodlggjjaaGreatDoor.txc
open Go.RowKit Go.Proofs.YtdcpggodlggjjaaGreatDoor.txm Go.Proofs.YtdcpggodlggjjaaGreatDoor.tlvc
set_option linter.unusedVariables false
theorem all19 (s : ByteArray) (w : World) (hs : s.size ≤ 9223372036854775807) :
 Calls Tryz.prog 195 #[.string s, .func (.func 196) #[] #[]] w fun e w' => e = .returned (.bool ((runes s).all (okR 19))) ∧ Below w.heap.size w w' :=
 all_any (okR 19) 196 s w hs (enters_of Tryz.func196 (by kernel_rfl) rfl) fun r w => print_any r w
theorem all22 (s : ByteArray) (w : World) (hs : s.size ≤ 9223372036854775807) :
 Calls Tryz.prog 195 #[.string s, .func (.func 197) #[] #[]] w fun e w' => e = .returned (.bool ((runes s).all (okR 22))) ∧ Below w.heap.size w w' :=
 all_any (okR 22) 197 s w hs (enters_of Tryz.func197 (by kernel_rfl) rfl) fun r w => lit22_any r w
theorem all27 (s : ByteArray) (w : World) (hs : s.size ≤ 9223372036854775807) :
 Calls Tryz.prog 195 #[.string s, .func (.func 198) #[] #[]] w fun e w' => e = .returned (.bool ((runes s).all (okR 27))) ∧ Below w.heap.size w w' :=
 all_any (okR 27) 198 s w hs (enters_of Tryz.func198 (by kernel_rfl) rfl) fun r w => lit27_any r w
/-- May these bytes be a text of this tag, but for UTF-8? -/
def rightB (t : Int) (xs : List Int) : Bool := if t = 19 ∨ t = 22 ∨ t = 27 then (runes (strOfNums xs)).all (okR t) else false
set_option maxRecDepth 100000 in
set_option maxHeartbeats 400000 in
theorem right_any (t : Int) (A : Option Addr) (n c : Nat) (xs : List Int) (w : World) (ht : t ≠ 12) (hx : Bys w A n xs) (hn : n ≤ maxLen) :
 Calls Tryz.prog 183 #[.int .u8 t, .slice A n c] w fun e w' => e = .returned (.bool (rightB t xs)) ∧ Below w.heap.size w w' := by
 have hcv := str_now hx c
 have hsz : (strOfNums xs).size ≤ 9223372036854775807 := by rw [strOfNums_size, hx.1]; exact hn
 obtain ⟨s, hs⟩ : ∃ s, strOfNums xs = s := ⟨_, rfl⟩
 unfold rightB
 rw [hs] at hcv hsz ⊢
 clear hs
 have h12 : (t == 12) = false := by simpa using ht
 by_cases h19 : t = 19
 ·subst h19
  rw [if_pos (.inl rfl)]
  go_enter Tryz.func183, Tryz.ntmps183
  go_wp2_with fail
  refine (all19 _ _ hsz).mono ?_
  rintro e w' ⟨rfl, hb⟩
  go_wp2
  go_ret
  exact ⟨rfl, hb⟩
 ·have h19b : (t == 19) = false := by simpa using h19
  by_cases h22 : t = 22
  ·subst h22
   rw [if_pos (.inr (.inl rfl))]
   go_enter Tryz.func183, Tryz.ntmps183
   go_wp2_with fail
   refine (all22 _ _ hsz).mono ?_
   rintro e w' ⟨rfl, hb⟩
   go_wp2
   go_ret
   exact ⟨rfl, hb⟩
  ·have h22b : (t == 22) = false := by simpa using h22
   by_cases h27 : t = 27
   ·subst h27
    rw [if_pos (.inr (.inr rfl))]
    go_enter Tryz.func183, Tryz.ntmps183
    go_wp2_with fail
    refine (all27 _ _ hsz).mono ?_
    rintro e w' ⟨rfl, hb⟩
    go_wp2
    go_ret
    exact ⟨rfl, hb⟩
   ·have h27b : (t == 27) = false := by simpa using h27
    rw [if_neg (by rintro (h | h | h) <;> contradiction)]
    clear h19 h22 h27 ht
    go_enter Tryz.func183, Tryz.ntmps183
    go_wp2
    go_ret
    exact ⟨rfl, Below.refl _ _⟩
end Go.Proofs.YtdcpggodlggjjaaGreatDoor.txc
namespace Go.Proofs.YtdcpggodlggjjaaGreatDoor.txc
open Go.ChangeShapes Go.WideShapes Go.ChangeAt Go.RowKit
def firstCells : Array Value := ((Go.Pinned.utf8FirstZ).map (fun (n : Nat) => Value.int .u8 (Int.ofNat n))).toArray
def acceptCells : Array Value := #[.int .u8 128, .int .u8 191, .int .u8 160, .int .u8 191, .int .u8 128, .int .u8 159, .int .u8 144, .int .u8 191, .int .u8 128, .int .u8 143, .int .u8 0, .int .u8 0, .int .u8 0, .int .u8 0, .int .u8 0, .int .u8 0, .int .u8 0, .int .u8 0, .int .u8 0, .int .u8 0, .int .u8 0, .int .u8 0, .int .u8 0, .int .u8 0, .int .u8 0, .int .u8 0, .int .u8 0, .int .u8 0, .int .u8 0, .int .u8 0, .int .u8 0, .int .u8 0]
def putFirst : Obj → Obj
 | .cells _ t frozen => .cells firstCells t frozen
 | o => o
def putAccept : Obj → Obj
 | .cells _ t frozen => .cells acceptCells t frozen
 | o => o
noncomputable def laidWorld (os : Os) : World :=
 { World.holding Tryz.prog os ⟨#[], #[], []⟩ with heap := ((World.holding Tryz.prog os ⟨#[], #[], []⟩).heap.modify 0 putFirst).modify 1 putAccept }
def theLaid : List (String × DataW Unit) := [("unicode/utf8.acceptRanges", Rows.laid_unicode_utf8_acceptRanges), ("unicode/utf8.first", Rows.laid_unicode_utf8_first)]
theorem laid_met (os : Os) (args : Array Value) : laidMet Tryz.prog theLaid ((laidWorld os).forCall (fun _ _ => 0) ⟨#[], args, []⟩).memory :=
 laidMet_of_run' 8 (by kernel_rfl) (by kernel_rfl)
end Go.Proofs.YtdcpggodlggjjaaGreatDoor.txc
namespace Go.Proofs.YtdcpggodlggjjaaGreatDoor.txc
open Go.ChangeShapes Go.WideShapes Go.ChangeAt Go.RowKit
set_option linter.unusedVariables false
/-- The library's two tables are as its text lays them. -/
def Tabs (w : World) : Prop := Lib.Utf8Tabs 0 1 w
theorem first_eq : Rows.laid_unicode_utf8_first = Lib.firstData := by kernel_rfl
theorem accept_eq : (Rows.laid_unicode_utf8_acceptRanges : DataW Unit) = Lib.acceptData := by kernel_rfl
theorem u8extra : U8Extra Tryz.prog Tryz.lays196_ren := ⟨by kernel_rfl, by kernel_rfl, by kernel_rfl, by kernel_rfl, by kernel_rfl, by kernel_rfl, by kernel_rfl⟩
theorem tabs_of {W : World} (h : laidMetH Tryz.prog theLaid W) : Tabs W := by
 rw [Go.MakeChecks.laidMetH_plain _ _ _ (by kernel_rfl)] at h
 have h1 := Lib.laidMet.reads h (.head _)
 have h2 := Lib.laidMet.reads h (.tail _ (.head _))
 rw [accept_eq] at h1
 rw [first_eq] at h2
 exact utf8Tabs_of_readsT (U8Types.of196 Tryz.lays196) u8extra h2 h1
end Go.Proofs.YtdcpggodlggjjaaGreatDoor.txc
namespace Go.Proofs.YtdcpggodlggjjaaGreatDoor.txm
open Go.Proofs.YtdcpggodlggjjaaGreatDoor.tlvc
end Go.Proofs.YtdcpggodlggjjaaGreatDoor.txm
namespace Go.Proofs.YtdcpggodlggjjaaGreatDoor.txc
open Go.RowKit Go.Proofs.YtdcpggodlggjjaaGreatDoor.txm Go.Proofs.YtdcpggodlggjjaaGreatDoor.tlvc
set_option linter.unusedVariables false
theorem Tabs.below {w w' : World} (h : Tabs w) (hb : Below w.heap.size w w') : Tabs w' := Utf8Tabs_below h hb
def utfB (xs : List Int) : Bool := Lib.validD (strOfNums xs).data.toList
set_option maxRecDepth 100000 in
theorem right_utf (A : Option Addr) (n c : Nat) (xs : List Int) (w : World) (hx : Bys w A n xs) (hn : n ≤ maxLen) (hT : Tabs w) :
 Calls Tryz.prog 183 #[.int .u8 12, .slice A n c] w fun e w' => e = .returned (.bool (utfB xs)) ∧ Below w.heap.size w w' := by
 have hcv := str_now hx c
 have hsz : (strOfNums xs).size ≤ 9223372036854775807 := by rw [strOfNums_size, hx.1]; exact hn
 have hval : Calls Tryz.prog 173 #[.string (strOfNums xs)] w fun e w' => e = .returned (.bool (utfB xs)) ∧ Below w.heap.size w w' := Any.utf8_ValidString Tryz.lays196 (strOfNums xs) w hsz hT
 obtain ⟨s, hs⟩ : ∃ s, strOfNums xs = s := ⟨_, rfl⟩
 rw [hs] at hcv hval
 obtain ⟨b, hb⟩ : ∃ b, utfB xs = b := ⟨_, rfl⟩
 rw [hb] at hval ⊢
 have HV := Lib.hid hval
 clear hs hb hval
 go_enter Tryz.func183, Tryz.ntmps183
 go_wp2_with fail
 refine HV.out.mono ?_
 rintro e w' ⟨rfl, hb⟩
 go_wp2
 go_ret
 exact ⟨rfl, hb⟩
end Go.Proofs.YtdcpggodlggjjaaGreatDoor.txc
namespace Go.Proofs.YtdcpggodlggjjaaGreatDoor.txm
open Go.RowKit Go.Proofs.YtdcpggodlggjjaaGreatDoor.tlvc
set_option linter.unusedVariables false
end Go.Proofs.YtdcpggodlggjjaaGreatDoor.txm
namespace Go.Proofs.YtdcpggodlggjjaaGreatDoor.txc
open Go.RowKit Go.Proofs.YtdcpggodlggjjaaGreatDoor.txm Go.Proofs.YtdcpggodlggjjaaGreatDoor.tlvc
set_option linter.unusedVariables false
def PB (c : Int) : Prop := (65 ≤ c ∧ c ≤ 90) ∨ (97 ≤ c ∧ c ≤ 122) ∨ (48 ≤ c ∧ c ≤ 57) ∨ c = 32
instance (c : Int) : Decidable (PB c) := by unfold PB; infer_instance
/-- The document's answer, for each tag. -/
def rightD (t : Int) (xs : List Int) : Bool := if t = 12 then utfB xs else rightB t xs
/-- The program's Right, for every tag. -/
theorem right_all (t : Int) (A : Option Addr) (n c : Nat) (xs : List Int) (w : World) (hx : Bys w A n xs) (hn : n ≤ maxLen) (hT : Tabs w) :
 Calls Tryz.prog 183 #[.int .u8 t, .slice A n c] w fun e w' => e = .returned (.bool (rightD t xs)) ∧ Below w.heap.size w w' := by
 unfold rightD
 by_cases h12 : t = 12
 ·subst h12; rw [if_pos rfl]; exact right_utf A n c xs w hx hn hT
 ·rw [if_neg h12]; exact right_any t A n c xs w h12 hx hn
end Go.Proofs.YtdcpggodlggjjaaGreatDoor.txc
