/- Small contracts of layer 2's program: bytes.Equal, PutBool, the closures of sure. -/
import Derived.Test.YtcjjhjflijhijaaChecked
import Derived.Test.YtcjjhjflijhijaaKitB
import Derived.WalkMore
import Derived.Outline
import Derived.WalkSpells
import Derived.Lib.SlBytesConst
import Derived.Lib.Bytes
namespace Go.Proofs.Ytcjjhjflijhijaa.intc
open Go.RowKit Go.Proofs.Ytcjjhjflijhijaa.tlvc

/-- The bytes ys in new memory (or nil, if there are none). -/
def Here (B : Nat) (A : Option Addr) (c : Nat) (ys : List Int) (w' : World) : Prop :=
  Bys w' A ys.length ys ∧ ys.length ≤ c ∧ c ≤ maxLen ∧ (∀ b off, A = some ⟨b, off, none⟩ → B ≤ b ∧ off = 0)
def Made (w : World) (ys : List Int) (e : Ending) (w' : World) : Prop :=
  ∃ A c, e = .returned (.slice A ys.length c) ∧ Here w.heap.size A c ys w' ∧ Below w.heap.size w w'

theorem here_new {w : World} {b : Nat} {ys : List Int} {c : Array Value} {e : TypeId} {fr : Nat × Nat} (hb : b = w.heap.size) (hf : Fit ys) (hc : c = (vals ys).toArray) (hm : ys.length ≤ maxLen) :
    Here b (some ⟨b, 0, none⟩) ys.length ys (w.alloc (.cells c e fr)) := by
  subst hc hb
  refine ⟨⟨rfl, hf, fun _ => ⟨_, _, rfl, by simp, fun j hj => ?_⟩⟩, Nat.le_refl _, hm, fun b off h => by cases h; exact ⟨Nat.le_refl _, rfl⟩⟩
  rw [Nat.zero_add, World.cell?_alloc_mark]
  simp [vals, List.getD_eq_getElem?_getD, List.getElem?_eq_getElem hj]

theorem str_now {w : World} {A : Option Addr} {n : Nat} {xs : List Int} (h : Bys w A n xs) (c : Nat) :
    (convert 22 9 (.slice A n c)).run Try.prog w = .ok (.string (strOfNums xs)) w :=
  run_str (P := Try.prog) 22 5 Try.underlying22 Try.underlying5 A n c xs h 9 Try.underlying9

/-- Are two rows of bytes alike, as the walk tells it. -/
def sameB (xs ys : List Int) : Bool := (strOfNums xs).toList == (strOfNums ys).toList
theorem fit_ext : ∀ {xs ys : List Int}, Fit xs → Fit ys → Lib.bytesOf xs = Lib.bytesOf ys → xs = ys
  | [], [], _, _, _ => rfl
  | [], _ :: _, _, _, h => by simp [Lib.bytesOf] at h
  | _ :: _, [], _, _, h => by simp [Lib.bytesOf] at h
  | x :: xs, y :: ys, hx, hy, h => by
    simp only [Lib.bytesOf, List.map_cons, List.cons.injEq] at h
    have h1 := hx x (by simp)
    have h2 := hy y (by simp)
    have e : x = y := by
      have := congrArg UInt8.toNat h.1
      simp only [UInt8.toNat_ofNat'] at this
      omega
    have e2 : xs = ys := fit_ext (fun z hz => hx z (by simp [hz])) (fun z hz => hy z (by simp [hz])) h.2
    rw [e, e2]
theorem sameB_iff {xs ys : List Int} (hx : Fit xs) (hy : Fit ys) : sameB xs ys = true ↔ xs = ys := by
  unfold sameB
  rw [Lib.strOfNums_toList, Lib.strOfNums_toList, beq_iff_eq]
  exact ⟨fit_ext hx hy, fun h => by rw [h]⟩
theorem sameB_no {xs ys : List Int} (hx : Fit xs) (hy : Fit ys) (h : xs ≠ ys) : sameB xs ys = false := by
  cases e : sameB xs ys
  · rfl
  · exact absurd ((sameB_iff hx hy).1 e) h

theorem equal_any (A B : Option Addr) (n c m d : Nat) (xs ys : List Int) (w : World) (hx : Bys w A n xs) (hy : Bys w B m ys) :
    Calls Try.prog 46 #[.slice A n c, .slice B m d] w fun e w' => e = .returned (.bool (sameB xs ys)) ∧ w = w' := by
  have h1 := str_now hx c
  have h2 := str_now hy d
  go_enter Try.func46, Try.ntmps46
  go_wp2
  go_ret
  exact ⟨rfl, rfl⟩

def boolB (b : Bool) : List Int := [if b = true then 255 else 0]
theorem boolB_fit (b : Bool) : Fit (boolB b) := by intro x hx; simp [boolB] at hx; split at hx <;> omega

theorem putBool_any (b : Bool) (w : World) : Calls Try.prog 24 #[.bool b] w (Made w (boolB b)) := by
  have hf := boolB_fit b
  cases b
  · go_enter Try.func24, Try.ntmps24
    go_wp2
    go_ret
    exact ⟨_, _, rfl, here_new rfl hf rfl (by unfold maxLen; decide), (Below.refl _ _).alloc (Nat.le_refl _) _⟩
  · go_enter Try.func24, Try.ntmps24
    go_wp2
    go_ret
    exact ⟨_, _, rfl, here_new rfl hf rfl (by unfold maxLen; decide), (Below.refl _ _).alloc (Nat.le_refl _) _⟩

theorem refPutBool_any (b : Bool) (w : World) : Calls Try.prog 25 #[.bool b] w (Made w (boolB b)) := by
  have hf := boolB_fit b
  cases b
  · go_enter Try.func25, Try.ntmps25
    go_wp2
    go_ret
    exact ⟨_, _, rfl, here_new rfl hf rfl (by unfold maxLen; decide), (Below.refl _ _).alloc (Nat.le_refl _) _⟩
  · go_enter Try.func25, Try.ntmps25
    go_wp2
    go_ret
    exact ⟨_, _, rfl, here_new rfl hf rfl (by unfold maxLen; decide), (Below.refl _ _).alloc (Nat.le_refl _) _⟩

/-- The same beside OK. -/
def Made2 (w : World) (ys : List Int) (e : Ending) (w' : World) : Prop :=
  ∃ A c, e = .returned (.tuple #[.slice A ys.length c, .int .i64 0]) ∧ Here w.heap.size A c ys w' ∧ Below w.heap.size w w'
end Go.Proofs.Ytcjjhjflijhijaa.intc
