/- Blanks about a text, and blanks for one. No run in this text. -/
import Derived.Test.YtomoinohfoalnaaDoorTxAH
namespace Go.Proofs.YtomoinohfoalnaaDoor.txm
open Go.Proofs.YtomoinohfoalnaaDoor.tlvc
set_option linter.unusedVariables false
set_option linter.unusedSimpArgs false
/-- A text that is one blank. -/
def BlankB (b : ByteArray) : Prop := Starts b.data.toList ∧ ∃ c : Nat, ValR c ∧ kindF c = 2 ∧ b.data.toList = Lib.encodeRune c
theorem blankBs : BlankB ⟨#[32]⟩ ∧ BlankB ⟨#[9]⟩ ∧ BlankB ⟨#[194, 160]⟩ ∧ BlankB ⟨#[227, 128, 128]⟩ ∧ BlankB ⟨#[226, 128, 131]⟩ :=
  ⟨⟨by unfold Starts; decide, 32, .inl (by decide), by decide, by decide⟩, ⟨by unfold Starts; decide, 9, .inl (by decide), by decide, by decide⟩, ⟨by unfold Starts; decide, 160, .inl (by decide), by decide, by decide⟩, ⟨by unfold Starts; decide, 12288, .inl (by decide), by decide, by decide⟩, ⟨by unfold Starts; decide, 8195, .inl (by decide), by decide, by decide⟩⟩
theorem runes_pre {b : ByteArray} {c : Nat} (hb : b.data.toList = Lib.encodeRune c) (hv : ValR c) (s : ByteArray) : runes (b ++ s) = [(c : Int)] ++ runes s := by
  have hl := encR_len c
  have hz : b.size = (Lib.encodeRune c).length := by rw [← hb, Array.length_toList]; rfl
  have hs : s.size = s.data.toList.length := by rw [Array.length_toList]; rfl
  unfold runes
  rw [runesF_rL, runesF_rL, List.drop_zero, List.drop_zero, ByteArray.size_append, ByteArray.data_append, Array.toList_append, hb, hz, hs]
  obtain ⟨k, hk⟩ : ∃ k, (Lib.encodeRune c).length = k + 1 := ⟨(Lib.encodeRune c).length - 1, by omega⟩
  rw [hk, show k + 1 + s.data.toList.length = (s.data.toList.length + k) + 1 by omega, rL, if_pos (by rw [List.length_append]; omega), dec_enc hv, List.drop_left, rL_more _ _ _ (Nat.le_refl _)]
  rfl
theorem starts_app {b s : ByteArray} {c : Nat} (hb : b.data.toList = Lib.encodeRune c) (h : Starts b.data.toList) : Starts (b ++ s).data.toList := by
  have hl := encR_len c
  unfold Starts at h ⊢
  rw [ByteArray.data_append, Array.toList_append, getD_app_l (by rw [hb]; omega)]
  exact h
theorem prepF_about {b : ByteArray} (h : BlankB b) (s : ByteArray) : prepF (b ++ s ++ b ++ ⟨#[32]⟩) = prepF s := by
  obtain ⟨hs, c, hv, hk, hb⟩ := h
  obtain ⟨h32, c2, hv2, hk2, hb2⟩ := blankBs.1
  have e : b ++ s ++ b ++ ⟨#[32]⟩ = b ++ (s ++ (b ++ ⟨#[32]⟩)) := by rw [ByteArray.append_assoc, ByteArray.append_assoc]
  have e3 : runes (⟨#[32]⟩ : ByteArray) = [32] := by decide
  have key : runes (b ++ s ++ b ++ ⟨#[32]⟩) = [(c : Int)] ++ runes s ++ [(c : Int), 32] := by
    rw [e, runes_pre hb hv, runes_app _ _ (starts_app hb hs), runes_pre hb hv, e3]
    simp
  unfold prepF
  rw [key, prepR_about hk]
  intro x hx
  simp only [List.mem_cons, List.not_mem_nil, or_false] at hx
  rcases hx with rfl | rfl
  · exact hk
  · exact kind_32
theorem prepF_split {b : ByteArray} (h : BlankB b) (s t : ByteArray) : prepF (s ++ b ++ b ++ (⟨#[32]⟩ ++ t)) = prepF (s ++ (⟨#[32]⟩ ++ t)) := by
  obtain ⟨hs, c, hv, hk, hb⟩ := h
  have hb3 : (⟨#[32]⟩ : ByteArray).data.toList = Lib.encodeRune (32 : Nat) := by decide
  have h32 : Starts (⟨#[32]⟩ : ByteArray).data.toList := by unfold Starts; decide
  have hv3 : ValR 32 := .inl (by decide)
  have e : s ++ b ++ b ++ (⟨#[32]⟩ ++ t) = s ++ (b ++ (b ++ (⟨#[32]⟩ ++ t))) := by rw [ByteArray.append_assoc, ByteArray.append_assoc]
  unfold prepF
  rw [e, runes_app _ _ (starts_app hb hs), runes_pre hb hv, runes_pre hb hv, runes_app _ _ (starts_app hb3 h32), runes_pre hb3 hv3]
  exact congrArg enc (prepR_split hk _ _)
end Go.Proofs.YtomoinohfoalnaaDoor.txm
