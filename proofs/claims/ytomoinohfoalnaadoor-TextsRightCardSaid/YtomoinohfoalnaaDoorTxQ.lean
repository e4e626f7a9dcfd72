/- Texts as runes, and texts prepared: plain words. -/
import Derived.Test.YtomoinohfoalnaaDoorTxP
import Derived.Lib.RuneBytes
import Derived.Lib.RuneCount
namespace Go.Proofs.YtomoinohfoalnaaDoor.txm
/-- The runes of a text, from a place on. -/
def runesF (s : ByteArray) : Nat → Nat → List Int
  | 0, _ => []
  | n + 1, p => if p < s.size then ((Utf8.decode s p).1 : Int) :: runesF s n (p + (Utf8.decode s p).2) else []
def runes (s : ByteArray) : List Int := runesF s s.size 0
theorem runesF_end (s : ByteArray) (n p : Nat) (h : ¬ p < s.size) : runesF s n p = [] := by cases n <;> simp [runesF, h]
theorem width_pos (s : ByteArray) (p : Nat) (h : p < s.size) : 1 ≤ (Utf8.decode s p).2 := Lib.decode_width_pos s p h

/-- What is out so far, and whether a blank is owed. -/
def stepP (st : List Int × Bool) (r : Int) : List Int × Bool :=
  if kindF r = 1 then st
  else if kindF r = 2 then (st.1, decide (st.1 ≠ []))
  else (st.1 ++ (if st.2 = true then [32] else []) ++ [if kindF r = 3 then r + 32 else r], false)
def prepR (l : List Int) : List Int := (l.foldl stepP ([], false)).1
def enc (l : List Int) : List UInt8 := l.flatMap Lib.encodeRune
def prepF (s : ByteArray) : List UInt8 := enc (prepR (runes s))
theorem enc_app (a b : List Int) : enc (a ++ b) = enc a ++ enc b := List.flatMap_append ..
theorem enc_one (r : Int) : enc [r] = Lib.encodeRune r := by simp [enc]
theorem encR_len (r : Int) : 1 ≤ (Lib.encodeRune r).length ∧ (Lib.encodeRune r).length ≤ 4 := by
  have := Lib.runeCells_le r; rw [Lib.runeCells_length] at this; exact this
theorem enc_len (l : List Int) : l.length ≤ (enc l).length ∧ (enc l).length ≤ 4 * l.length := by
  induction l with
  | nil => simp [enc]
  | cons a l ih =>
    have := encR_len a
    have e : enc (a :: l) = Lib.encodeRune a ++ enc l := by simp [enc]
    rw [e, List.length_append, List.length_cons]; omega
theorem enc_nil {l : List Int} : (enc l).length = 0 ↔ l = [] := by
  have := enc_len l
  constructor
  · intro h; exact List.eq_nil_of_length_eq_zero (by omega)
  · intro h; subst h; rfl
theorem encode32 : Lib.encodeRune 32 = [32] := by decide
end Go.Proofs.YtomoinohfoalnaaDoor.txm
