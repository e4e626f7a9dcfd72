/- The document's printed and Print. -/
import Derived.Test.YtaafgohaikhekaaDoorNdPb
namespace Go.Proofs.YtaafgohaikhekaaDoor.ndc
open Go.RowKit Go.Proofs.YtaafgohaikhekaaDoor.tlvc Go.Proofs.YtaafgohaikhekaaDoor.tlvd Go.Proofs.YtaafgohaikhekaaDoor.txc
set_option linter.unusedVariables false
set_option linter.unusedSimpArgs false
/-! ### What comes of a node, way by way -/
theorem w_deep {t : Int} {b : List Int} {ks : List Nd} {o : Nat} (h : 32 ≤ o) : writeF (.mk t b ks) o = .no 41 := by
  unfold writeF
  have e : aloneF t b o = 41 := by rw [aloneF_own, if_pos h]
  rw [e, if_pos (by decide)]
theorem tagF_47 (t : Int) : tagF t = 0 ∨ tagF t = 11 ∨ tagF t = 43 := by unfold tagF; split <;> (try split) <;> (try split) <;> simp
theorem own_tag {t : Int} {b : List Int} (h : tagF t ≠ 0) : ownF t b = tagF t := by
  by_cases hc : 32 ≤ t % 64
  · exact (own_comp hc).symm
  · have := own_plain (t := t) (xs := b) ⟨by omega, by omega⟩
    rw [if_neg h] at this
    exact this.symm
theorem w_tag {t : Int} {b : List Int} {ks : List Nd} {o : Nat} (h : ¬ 32 ≤ o) (ht : tagF t ≠ 0) : writeF (.mk t b ks) o = .no (tagF t) := by
  unfold writeF
  have e : aloneF t b o = tagF t := by rw [aloneF_own, if_neg h, own_tag ht]
  rw [e, if_pos ht]
theorem w_plain {t : Int} {b : List Int} {ks : List Nd} {o : Nat} (h : ¬ 32 ≤ o) (ht : tagF t = 0) (hc : compB t = false) :
    writeF (.mk t b ks) o = if 0 < ks.length then .no 43 else if bodyB t b = true then putW t b else .no 43 := by
  have hcp : ¬ 32 ≤ t % 64 := by unfold compB at hc; simpa using hc
  have hown := own_plain (t := t) (xs := b) ⟨by omega, by omega⟩
  rw [if_pos ht] at hown
  unfold writeF
  rw [aloneF_own, if_neg h, ← hown]
  have hm : misF t b ks.length = decide (0 < ks.length) := by unfold misF; rw [hc]; simp
  rw [hm, hc]
  unfold bodyF
  by_cases hb : bodyB t b = true
  · rw [if_pos hb, if_neg (by decide)]
    by_cases hk : 0 < ks.length
    · rw [if_pos (decide_eq_true hk), if_pos hk]
    · rw [if_neg (by simpa using hk), if_neg hk, if_pos hb, if_neg (by decide)]
  · rw [if_neg hb, if_pos (by decide)]
    by_cases hk : 0 < ks.length
    · rw [if_pos hk]
    · rw [if_neg hk, if_neg hb]
theorem w_comp {t : Int} {b : List Int} {ks : List Nd} {o : Nat} (hr : 0 ≤ t ∧ t ≤ 255) (h : ¬ 32 ≤ o) (ht : tagF t = 0) (hc : compB t = true) :
    writeF (.mk t b ks) o = if 0 < b.length then .no 43 else match bytesL ks (o + 1) [] with | (none, e) => .no e | (some l, _) => if t = 49 ∧ risingB l = false then .no 42 else putW t l.flatten := by
  have hcp : 32 ≤ t % 64 := by unfold compB at hc; simpa using hc
  have hend : endlessB t = false := by
    unfold tagF at ht
    by_cases h31 : t % 32 = 31
    · rw [if_pos h31] at ht; cases ht
    · rw [endless_mod t hr.1 hr.2]
      simpa using h31
  unfold writeF
  rw [aloneF_own, if_neg h, ← own_comp hcp, ht, if_neg (by decide)]
  have hm : misF t b ks.length = decide (0 < b.length) := by unfold misF; rw [hc]; simp
  rw [hm, hc]
  by_cases hb : 0 < b.length
  · rw [if_pos (decide_eq_true hb), if_pos hb]
  · rw [if_neg (by simpa using hb), if_neg hb, if_pos rfl]
    have hw := writeL_bytes ks (o + 1) []
    rw [List.foldl_nil] at hw
    rw [hw]
    cases hb2 : bytesL ks (o + 1) [] with
    | mk a e =>
      cases a with
      | none => rfl
      | some l => exact finW_all hend
end Go.Proofs.YtaafgohaikhekaaDoor.ndc
