/- Great ASCII letters for small ones, byte by byte: the runes alike; blanks' own bytes. No run in this text. -/
import Derived.Test.YtomoinohfoalnaaDoorTxAG
namespace Go.Proofs.YtomoinohfoalnaaDoor.txm
open Go.Proofs.YtomoinohfoalnaaDoor.tlvc
set_option linter.unusedVariables false
set_option linter.unusedSimpArgs false
def upN (b : Nat) : Nat := if 97 ≤ b ∧ b ≤ 122 then b - 32 else b
def up8 (x : UInt8) : UInt8 := UInt8.ofNat (upN x.toNat)
theorem up8_nat (x : UInt8) : (up8 x).toNat = upN x.toNat := by
  have := UInt8.toNat_lt x
  unfold up8
  exact u8n (by unfold upN; split <;> omega)
theorem upN_class (b : Nat) : upN b = b ∨ (b / 64 ≠ 2 ∧ upN b / 64 ≠ 2) := by
  unfold upN; split
  · exact .inr (by omega)
  · exact .inl rfl
theorem dN_up {n b0 b1 b2 b3 c1 c2 c3 : Nat} (h1 : c1 = b1 ∨ (b1 / 64 ≠ 2 ∧ c1 / 64 ≠ 2)) (h2 : c2 = b2 ∨ (b2 / 64 ≠ 2 ∧ c2 / 64 ≠ 2)) (h3 : c3 = b3 ∨ (b3 / 64 ≠ 2 ∧ c3 / 64 ≠ 2)) :
    Lib.decodeN n b0 c1 c2 c3 = Lib.decodeN n b0 b1 b2 b3 := by
  rcases h1 with rfl | ⟨a1, a2⟩
  · rcases h2 with rfl | ⟨a1, a2⟩
    · rcases h3 with rfl | ⟨a1, a2⟩
      · rfl
      · unfold Lib.decodeN; simp [a1, a2]
    · unfold Lib.decodeN; simp [a1, a2]
  · unfold Lib.decodeN; simp [a1, a2]
theorem dN_ge {n b0 b1 b2 b3 : Nat} (h : 128 ≤ b0) : 128 ≤ (Lib.decodeN n b0 b1 b2 b3).1 := by
  unfold Lib.decodeN
  rw [if_neg (by omega)]
  repeat' split
  all_goals first | omega | decide
theorem getD_up (l : List UInt8) (k : Nat) : ((l.map up8).getD k 0).toNat = upN (l.getD k 0).toNat := by
  rw [List.getD_eq_getElem?_getD, List.getD_eq_getElem?_getD, List.getElem?_map]
  cases l[k]? with
  | none => rfl
  | some x => exact up8_nat x
theorem decL_up (l : List UInt8) : (decL (l.map up8)).2 = (decL l).2 ∧ ((decL (l.map up8)).1 : Int) = up1 ((decL l).1 : Int) := by
  unfold decL
  rw [List.length_map, getD_up, getD_up, getD_up, getD_up]
  obtain ⟨b0, h0⟩ : ∃ b, (l.getD 0 0).toNat = b := ⟨_, rfl⟩
  rw [h0, dN_up (upN_class _) (upN_class _) (upN_class _)]
  by_cases h : b0 < 128
  · have hu : upN b0 < 128 := by unfold upN; split <;> omega
    rw [Lib.decodeN_ascii _ _ _ _ _ h, Lib.decodeN_ascii _ _ _ _ _ hu]
    refine ⟨rfl, ?_⟩
    simp only
    unfold upN up1
    split
    · rw [if_pos (by omega)]; omega
    · rw [if_neg (by omega)]
  · have hu : upN b0 = b0 := by unfold upN; rw [if_neg (by omega)]
    rw [hu]
    refine ⟨rfl, ?_⟩
    have := dN_ge (n := l.length) (b1 := (l.getD 1 0).toNat) (b2 := (l.getD 2 0).toNat) (b3 := (l.getD 3 0).toNat) (show 128 ≤ b0 by omega)
    unfold up1
    rw [if_neg (by omega)]
theorem rL_up : ∀ (n : Nat) (l : List UInt8), rL n (l.map up8) = (rL n l).map up1
  | 0, _ => rfl
  | n + 1, l => by
    unfold rL
    rw [List.length_map]
    by_cases h : 0 < l.length
    · obtain ⟨a, b⟩ := decL_up l
      rw [if_pos h, if_pos h, a, b, ← List.map_drop, rL_up n, List.map_cons]
    · rw [if_neg h, if_neg h]; rfl
theorem prepF_up (s : ByteArray) : prepF ⟨(s.data.toList.map up8).toArray⟩ = prepF s := by
  have e : runes ⟨(s.data.toList.map up8).toArray⟩ = (runes s).map up1 := by
    unfold runes
    rw [runesF_rL, runesF_rL, List.drop_zero, List.drop_zero]
    have hz : (⟨(s.data.toList.map up8).toArray⟩ : ByteArray).size = s.size := by
      show (s.data.toList.map up8).toArray.size = s.data.size
      rw [List.size_toArray, List.length_map, Array.length_toList]
    rw [hz]
    exact rL_up _ _
  unfold prepF
  rw [e, prepR_up]
/-- A text that is one blank. -/
def OneB (b : ByteArray) : Prop := Starts b.data.toList ∧ ∃ c, runes b = [c] ∧ kindF c = 2
theorem ones : OneB ⟨#[32]⟩ ∧ OneB ⟨#[9]⟩ ∧ OneB ⟨#[194, 160]⟩ ∧ OneB ⟨#[227, 128, 128]⟩ ∧ OneB ⟨#[226, 128, 131]⟩ :=
  ⟨⟨by unfold Starts; decide, 32, by decide, by decide⟩, ⟨by unfold Starts; decide, 9, by decide, by decide⟩, ⟨by unfold Starts; decide, 160, by decide, by decide⟩, ⟨by unfold Starts; decide, 12288, by decide, by decide⟩, ⟨by unfold Starts; decide, 8195, by decide, by decide⟩⟩
end Go.Proofs.YtomoinohfoalnaaDoor.txm
