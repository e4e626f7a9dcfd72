/- bytes.Clone and slices.Clone; append of terms. -/
import Derived.Test.YtlnclgpbobaedaaDoorTmK
import Derived.Test.YtlnclgpbobaedaaDoorKitC
import Derived.Laws.Cover3
namespace Go.Proofs.YtlnclgpbobaedaaDoor.tmc
open Go.RowKit Go.Proofs.YtlnclgpbobaedaaDoor.tlvc
set_option linter.unusedVariables false
theorem Tryd.infoU8 : (Tryd.prog.info? 5).map (fun i => (i.zero, i.size, i.bytes)) = some (some (.int .u8 0), 1, 1) := by kernel_rfl
theorem Tryd.infoTerm : (Tryd.prog.info? 26).map (fun i => (i.zero, i.size, i.bytes)) = some (some (.agg #[.int .i64 0, .int .i64 0, .slice none 0 0, .slice none 0 0]), 4, 64) := by kernel_rfl
/-- append of bytes to a row of the call's own, as many as memory bears. -/
theorem app_long (w : World) (base : Nat) (v : Value) (n : Nat) (cs : List Value) (hown : w.ownsRow base 5 1 v n cs) (A : Option Addr) (m c : Nat) (ys : List Int) (hb : Bys w A m ys) (hn : n + m ≤ 140737488355328) (hbase : base ≤ w.heap.size) :
    ∃ v' w', (Builtin.append_ #[24, 24] 24 #[v, .slice A m c]).run Tryd.prog w = .ok v' w' ∧ w'.ownsRow base 5 1 v' (n + m) (cs ++ vals ys) ∧ w.grownBy w' v.ownBlock ∧ (v'.ownBlock = v.ownBlock ∨ ∃ g', v'.ownBlock = some g' ∧ w.heap.size ≤ g') := by
  obtain ⟨i0, hi, hz0, hz1, hz2⟩ := info_parts Tryd.infoU8
  rcases A with _ | ad
  · have hm : m = 0 := by
      rcases Nat.eq_zero_or_pos m with h0 | h0
      · exact h0
      · obtain ⟨b, off, h, _⟩ := hb.2.2 h0
        cases h
    subst hm
    have hn : ys = [] := List.eq_nil_of_length_eq_zero hb.1
    subst hn
    exact ⟨v, w, run_app_nil w base 24 24 5 i0 Tryd.underlying24 hi v n cs hown c, by simpa [vals] using hown, World.grownBy.refl w _, .inl rfl⟩
  · obtain ⟨v', w', h1, h2, h3, _, h5⟩ := app_gen (P := Tryd.prog) w base 24 24 5 i0 (.int .u8 0) 1 1 Tryd.underlying24 hi hz0 hz1 hz2 rfl (by decide) v n cs hown ad m c (vals ys) (by rw [vals_length, hb.1]; omega)
      (fun j u hu => by
        have hj : j < ys.length := by
          have := (List.getElem?_eq_some_iff.1 hu).1
          rwa [vals_length] at this
        obtain ⟨b, off, h, _, hc⟩ := hb.2.2 (by have := hb.1; omega)
        cases h
        rw [Addr.add_lit, hc j (by have := hb.1; omega), ← hu]
        simp [vals, List.getD_eq_getElem?_getD, List.getElem?_eq_getElem hj]) (vals_one ys) (by unfold maxLen; omega) (by omega) hbase
    exact ⟨v', w', h1, h2, h3, h5⟩
/-- append of terms' cells to a row of the call's own. -/
theorem app_terms (w : World) (base : Nat) (v : Value) (n : Nat) (cs : List Value) (hown : w.ownsRow base 26 4 v n cs) (a : Addr) (m c : Nat) (news : List Value) (hm : news.length = m * 4) (h1 : ∀ u ∈ news, u.oneCell' = true) (hnews : ∀ j u, news[j]? = some u → w.cell? (a.add j) = some u) (hn : n + m ≤ 1000000) (hbase : base ≤ w.heap.size) :
    ∃ v' w', (Builtin.append_ #[22, 22] 22 #[v, .slice (some a) m c]).run Tryd.prog w = .ok v' w' ∧ w'.ownsRow base 26 4 v' (n + m) (cs ++ news) ∧ w.grownBy w' v.ownBlock ∧ (v'.ownBlock = v.ownBlock ∨ ∃ g', v'.ownBlock = some g' ∧ w.heap.size ≤ g') := by
  obtain ⟨i0, hi, hz0, hz1, hz2⟩ := info_parts Tryd.infoTerm
  obtain ⟨v', w', h1, h2, h3, _, h5⟩ := app_gen (P := Tryd.prog) w base 22 22 26 i0 (.agg #[.int .i64 0, .int .i64 0, .slice none 0 0, .slice none 0 0]) 4 64 Tryd.underlying22 hi hz0 hz1 hz2 rfl (by decide) v n cs hown a m c news hm hnews h1 (by unfold maxLen; omega) (by omega) hbase
  exact ⟨v', w', h1, h2, h3, h5⟩
theorem own4_shape {w : World} {base : Nat} {e : TypeId} {size : Nat} {v : Value} {n : Nat} {xs : List Value} (h : w.ownsRow base e size v n xs) : ∃ A c, v = .slice A n c ∧ n ≤ c ∧ c ≤ maxLen ∧ (0 < n → ∃ g, A = some ⟨g, 0, none⟩ ∧ base ≤ g ∧ g < w.heap.size) := by
  rcases h.2 with ⟨rfl, rfl⟩ | ⟨g, cap, cur, rfl, hg, hh, hn, hc, _⟩
  · exact ⟨none, 0, rfl, Nat.le_refl _, Nat.zero_le _, fun hk => absurd hk (by omega)⟩
  · exact ⟨_, cap, rfl, hn, hc, fun _ => ⟨g, rfl, hg, (Array.getElem?_eq_some_iff.1 hh).1⟩⟩
theorem eql_nil {P : Program} (w : World) (t e : TypeId) (a : Option Addr) (l c : Nat) (h : P.underlying t = some (.slice e)) : (binOp .eql t (.slice a l c) (.slice none 0 0)).run P w = .ok (.bool a.isNone) w := by
  simp only [binOp]
  simp [run_equal_slice_nil w t e a l c h]
set_option maxRecDepth 100000 in
set_option maxHeartbeats 8000000 in
theorem bclone_any (A : Option Addr) (n c : Nat) (xs : List Int) (w : World) (hx : Bys w A n xs) (hc : n ≤ c) (hm : c ≤ maxLen) (hf : n ≤ 140737488351232) :
    Calls Tryd.prog 42 #[.slice A n c] w fun e w' => ∃ A' c', e = .returned (.slice A' n c') ∧ Bys w' A' n xs ∧ (n ≤ c' ∧ c' ≤ maxLen) ∧ Below w.heap.size w w' ∧ ∀ g off sp, A' = some ⟨g, off, sp⟩ → w.heap.size ≤ g := by
  obtain ⟨v3, w3, hrun, hown3, hg3, hob3⟩ := app_long (w.alloc (.cells #[] 5)) w.heap.size (.slice (some ⟨w.heap.size, 0, none⟩) 0 0) 0 [] (World.ownsRow_lit w #[] 0 (Nat.le_refl _) (Nat.zero_le _) rfl) A n c xs (hx.alloc _) (by omega) (by simp)
  rw [Nat.zero_add, List.nil_append] at hown3
  obtain ⟨Ao, co, hv3, hlo, hco, hAo⟩ := own_shape hown3
  subst hv3
  have hb3 : Below w.heap.size w w3 := ((Below.refl _ _).alloc (Nat.le_refl _) _).grown hg3 (by simp) fun j hj => by have hj : some w.heap.size = some j := hj; cases hj; exact Nat.le_refl _
  have hbo := Bys.own hown3 hx.2.1
  have hfar : ∀ g off sp, Ao = some ⟨g, off, sp⟩ → w.heap.size ≤ g := fun g off sp e => (hown3.lt g (by rw [e]; rfl)).1
  have HE := Lib.hid (And.intro hbo (And.intro hb3 hfar))
  have hnil := fun W => eql_nil (P := Tryd.prog) W 24 5 A n c Tryd.underlying24
  rcases A with _ | ad
  · have hn0 : n = 0 := by
      rcases Nat.eq_zero_or_pos n with h0 | h0
      · exact h0
      · obtain ⟨b, off, h, _⟩ := hx.2.2 h0
        cases h
    subst hn0
    have hx0 : xs = [] := List.eq_nil_of_length_eq_zero hx.1
    subst hx0
    clear HE hbo hb3 hfar hown3 hg3 hob3 hrun
    go_enter Tryd.func42, Tryd.ntmps42
    go_wp2
    go_ret
    exact ⟨none, 0, rfl, Bys.nil_ _ _, ⟨Nat.le_refl _, Nat.zero_le _⟩, Below.refl _ _, fun g off sp e => by cases e⟩
  · clear hbo hb3 hfar hown3 hg3 hob3 hx
    go_enter Tryd.func42, Tryd.ntmps42
    go_wp2_with (at_builtin; refine wpl_append rfl (.tmp 5) (.tmp 6) 24 rfl _ _ _ rfl rfl hrun ?_)
    go_ret
    exact ⟨Ao, co, rfl, HE.out.1, ⟨hlo, hco⟩, HE.out.2.1, HE.out.2.2⟩
set_option maxRecDepth 100000 in
set_option maxHeartbeats 8000000 in
theorem sclone_any (cs : List Value) (A : Option Addr) (n c : Nat) (w : World) (hl : cs.length = n * 4) (h1 : ∀ u ∈ cs, u.oneCell' = true) (hA : 0 < n → ∃ g off, A = some ⟨g, off, none⟩ ∧ g < w.heap.size ∧ ∀ j u, cs[j]? = some u → w.cell? ⟨g, off + j, none⟩ = some u) (hc : n ≤ c) (hm : c ≤ maxLen) (hf : n ≤ 100000) :
    Calls Tryd.prog 44 #[.slice A n c] w fun e w' => ∃ A' c', e = .returned (.slice A' n c') ∧ w'.ownsRow w.heap.size 26 4 (.slice A' n c') n cs ∧ Below w.heap.size w w' := by
  have hnil := fun W => eql_nil (P := Tryd.prog) W 22 26 A n c Tryd.underlying22
  have hlit := World.ownsRow_lit (base := w.heap.size) (e := 26) (size := 4) w #[] 0 (Nat.le_refl _) (Nat.zero_le _) rfl
  rcases A with _ | ad
  · have h0 : n = 0 := by
      rcases Nat.eq_zero_or_pos n with h0 | h0
      · exact h0
      · obtain ⟨_, _, h, _⟩ := hA h0; cases h
    subst h0
    have hk0 : cs = [] := List.eq_nil_of_length_eq_zero (by omega)
    subst hk0
    clear hlit
    go_enter Tryd.func44, Tryd.ntmps44
    go_wp2
    go_ret
    exact ⟨none, 0, rfl, World.ownsRow_nil _ _ _ _, Below.refl _ _⟩
  · have hbn : Below w.heap.size w (w.alloc (.cells #[] 26)) := below_new _ _
    obtain ⟨v3, w3, hrun, hown3, hg3, _⟩ := app_terms (w.alloc (.cells #[] 26)) w.heap.size (.slice (some ⟨w.heap.size, 0, none⟩) 0 0) 0 [] hlit ad n c cs hl h1 (fun j u hu => by
      have hj := (List.getElem?_eq_some_iff.1 hu).1
      obtain ⟨g, off, e, hg, hcs⟩ := hA (by omega)
      cases e
      rw [Addr.add_lit]
      exact (hbn.cell (p := ⟨g, off + j, none⟩) hg).trans (hcs j u hu)) (by omega) (by simp)
    rw [Nat.zero_add, List.nil_append] at hown3
    have hb3 : Below w.heap.size w w3 := ((Below.refl _ _).alloc (Nat.le_refl _) _).grown hg3 (by simp) fun j hj => by have hj : some w.heap.size = some j := hj; cases hj; exact Nat.le_refl _
    obtain ⟨A', c', hv3, _⟩ := own4_shape hown3
    subst hv3
    have HE := Lib.hid (And.intro hown3 hb3)
    clear hown3 hb3 hg3 hlit hbn hA hl h1
    go_enter Tryd.func44, Tryd.ntmps44
    go_wp2_with (at_builtin; refine wpl_append rfl (.tmp 5) (.tmp 6) 22 rfl _ _ _ rfl rfl hrun ?_)
    go_ret
    exact ⟨A', c', rfl, HE.out.1, HE.out.2⟩
end Go.Proofs.YtlnclgpbobaedaaDoor.tmc
