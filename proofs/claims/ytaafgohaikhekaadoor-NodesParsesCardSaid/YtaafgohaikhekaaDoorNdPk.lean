/- Parse's answer in one piece; a row of the call's own, changed. -/
import Derived.Test.YtaafgohaikhekaaDoorNdPj
namespace Go.Proofs.YtaafgohaikhekaaDoor.ndc
open Go.RowKit Go.Proofs.YtaafgohaikhekaaDoor.tlvc Go.Proofs.YtaafgohaikhekaaDoor.tlvd Go.Proofs.YtaafgohaikhekaaDoor.txc
set_option linter.unusedVariables false
def ansN : RR → Nd
  | .bad _ _ => .mk 0 [] []
  | .ok n _ => n
def ansA : RR → Int
  | .bad a _ => a
  | .ok _ _ => 0
def ansE : RR → Int
  | .bad _ e => e
  | .ok _ _ => 0
theorem nil_nd (B : Nat → Prop) (w : World) : NdC B w (.mk 0 [] []) (.int .u8 0) (.slice none 0 0) (.slice none 0 0) := by
  unfold NdC
  exact ⟨rfl, by omega, ⟨none, 0, 0, rfl, Nat.le_refl _, Nat.zero_le _, Bys.nil_ _ _, fun h => absurd h (by omega)⟩, none, 0, rfl, Nat.le_refl _, Nat.zero_le _, fun h => absurd h (by simp)⟩
theorem PPost.all {w w' : World} {r : RR} {e : Ending} (h : PPost w r e w') : Below w.heap.size w w' ∧ ∃ t A la ca K lk ck, e = .returned (.tuple #[.agg #[.int .u8 t, .slice A la ca, .slice K lk ck], .int .i64 (ansA r), .int .i64 (ansE r)]) ∧ NdC (fun g => w.heap.size ≤ g) w' (ansN r) (.int .u8 t) (.slice A la ca) (.slice K lk ck) := by
  obtain ⟨hb, h⟩ := h
  refine ⟨hb, ?_⟩
  cases r with
  | bad a er => exact ⟨_, _, _, _, _, _, _, h, nil_nd _ _⟩
  | ok n nx =>
    obtain ⟨v, he, c0, c1, c2, rfl, hn⟩ := h
    obtain ⟨tk, Ak, lak, cak, Kk, lkk, ckk, ec0, ec1, ec2⟩ := hn.shape
    subst ec0 ec1 ec2
    exact ⟨_, _, _, _, _, _, _, he, hn⟩
theorem stays_grown {w w' : World} {o : Option Nat} {B : Nat → Prop} (h : w.grownBy w' o) (hB : ∀ g, B g → some g ≠ o) : Stays B w w' :=
  ⟨h.size, fun p hp hl => cell_same (h.block p.block hl (hB _ hp))⟩
theorem own_step {w5 wr : World} {base g len1 co k : Nat} {zs : List Int} {z' : Int} (hf : Fit zs) (hz' : 0 ≤ z' ∧ z' ≤ 255) (hown : wr.ownsRow base 5 1 (.slice (some ⟨g, 0, none⟩) len1 co) len1 (vals zs)) (hgr : w5.grownBy wr (some g)) :
    (∃ zs', Fit zs' ∧ (wr.setCell ⟨g, k, none⟩ (.int .u8 z')).ownsRow base 5 1 (.slice (some ⟨g, 0, none⟩) len1 co) len1 (vals zs')) ∧ w5.grownBy (wr.setCell ⟨g, k, none⟩ (.int .u8 z')) (some g) := by
  obtain ⟨h1, h2⟩ := hown.stored k (.int .u8 z')
  refine ⟨⟨zs.set k z', ?_, ?_⟩, grown_trans hgr h2⟩
  · intro x hx
    rcases List.mem_or_eq_of_mem_set hx with h | h
    · exact hf x h
    · rw [h]; exact hz'
  · have : vals (zs.set k z') = (vals zs).set k (.int .u8 z') := by simp [vals, List.map_set]
    rw [this]; exact h1
/-- append of bytes to a row of the call's own, as many as memory bears. -/
theorem app_long (w : World) (base : Nat) (v : Value) (n : Nat) (cs : List Value) (hown : w.ownsRow base 5 1 v n cs) (A : Option Addr) (m c : Nat) (ys : List Int) (hb : Bys w A m ys) (hn : n + m ≤ 140737488355328) (hbase : base ≤ w.heap.size) :
    ∃ v' w', (Builtin.append_ #[22, 22] 22 #[v, .slice A m c]).run Tryd.prog w = .ok v' w' ∧ w'.ownsRow base 5 1 v' (n + m) (cs ++ vals ys) ∧ w.grownBy w' v.ownBlock ∧ (v'.ownBlock = v.ownBlock ∨ ∃ g', v'.ownBlock = some g' ∧ w.heap.size ≤ g') := by
  obtain ⟨i0, hi, hz0, hz1, hz2⟩ := info_parts intc.Tryd.info5
  rcases A with _ | ad
  · have hm : m = 0 := by
      rcases Nat.eq_zero_or_pos m with h0 | h0
      · exact h0
      · obtain ⟨b, off, h, _⟩ := hb.2.2 h0
        cases h
    subst hm
    have hn : ys = [] := List.eq_nil_of_length_eq_zero hb.1
    subst hn
    exact ⟨v, w, run_app_nil w base 22 22 5 i0 Tryd.underlying22 hi v n cs hown c, by simpa [vals] using hown, World.grownBy.refl w _, .inl rfl⟩
  · obtain ⟨v', w', h1, h2, h3, _, h5⟩ := app_gen (P := Tryd.prog) w base 22 22 5 i0 (.int .u8 0) 1 1 Tryd.underlying22 hi hz0 hz1 hz2 rfl (by decide) v n cs hown ad m c (vals ys) (by rw [vals_length, hb.1]; omega)
      (fun j u hu => by
        have hj : j < ys.length := by
          have := (List.getElem?_eq_some_iff.1 hu).1
          rwa [vals_length] at this
        obtain ⟨b, off, h, _, hc⟩ := hb.2.2 (by have := hb.1; omega)
        cases h
        rw [Addr.add_lit, hc j (by have := hb.1; omega), ← hu]
        simp [vals, List.getD_eq_getElem?_getD, List.getElem?_eq_getElem hj]) (vals_one ys) (by unfold maxLen; omega) (by omega) hbase
    exact ⟨v', w', h1, h2, h3, h5⟩
end Go.Proofs.YtaafgohaikhekaaDoor.ndc
