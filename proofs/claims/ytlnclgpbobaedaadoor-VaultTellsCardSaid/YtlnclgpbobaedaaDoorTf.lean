/- What the walks of Pow stand on. terms.Pow: a power's power. -/
import Derived.Test.YtlnclgpbobaedaaDoorTc
import Derived.ArgAppend
import Derived.Test.YtlnclgpbobaedaaDoorTd
import Derived.RegionTactic
import Derived.Deep.QuietTactic
import Derived.Deep.RegionLaw
import Derived.BigQuiet
namespace Go.Proofs.YtlnclgpbobaedaaDoor.tmc
open Go.RowKit Go.Proofs.YtlnclgpbobaedaaDoor.tlvc
set_option linter.unusedVariables false
/-- append to a slice of bytes or terms, as one step of a region that draws. -/
theorem step_run {P : Program} {ops : Array Oper} {o : Oper} {a : Act} {w w' : World} {K : Act → World → Prop} {Q : Exit → Act → World → Prop} {E : Prop}
    (hg : o.guard = none) (s x : Operand) (t : TypeId) (hop : o.op = Op.call { callee := Callee.builtin Builtin.append, args := #[s, x], argTypes := #[t, t] })
    (v vs vx : Value) (hs : a.eval s = vs) (hx : a.eval x = vx) (hrun : (Builtin.append_ #[t, t] o.type #[vs, vx]).run P w = .ok v w') (hK : K (a.put o.dst v) w') :
    if Region.wanted o (yielded ops a.tmps) = true then Oper.wp P o a w K Q else E := by
  have hw : Region.wanted o (yielded ops a.tmps) = true := by simp [Region.wanted, hg]
  rw [if_pos hw]
  unfold Oper.wp
  simp [execOp, hop, resolve, invoke, builtin, hs, hx, hrun, Result.andThen]
  exact hK
/-- A term laid where an answer stands. -/
theorem res_end {w W : World} {b : Nat} {x0 x1 x2 x3 y0 y1 y2 y3 : Value} {T : TypeId} {fr : Nat × Nat} {n : Tm} {S : Nat → Prop} (hb : w.heap.size ≤ b) (hB : Below w.heap.size w W) (hres : W.heap[b]? = some (.cells #[x0, x1, x2, x3] T fr)) (hS : ∀ g, S g → w.heap.size ≤ g ∧ g ≠ b) (h : TmC S W n y0 y1 y2 y3) :
    ((((W.setCell ⟨b, 0, none⟩ y0).setCell ⟨b, 1, none⟩ y1).setCell ⟨b, 2, none⟩ y2).setCell ⟨b, 3, none⟩ y3).cell? ⟨b, 0, none⟩ = some y0 ∧ ((((W.setCell ⟨b, 0, none⟩ y0).setCell ⟨b, 1, none⟩ y1).setCell ⟨b, 2, none⟩ y2).setCell ⟨b, 3, none⟩ y3).cell? ⟨b, 1, none⟩ = some y1 ∧ ((((W.setCell ⟨b, 0, none⟩ y0).setCell ⟨b, 1, none⟩ y1).setCell ⟨b, 2, none⟩ y2).setCell ⟨b, 3, none⟩ y3).cell? ⟨b, 2, none⟩ = some y2 ∧ ((((W.setCell ⟨b, 0, none⟩ y0).setCell ⟨b, 1, none⟩ y1).setCell ⟨b, 2, none⟩ y2).setCell ⟨b, 3, none⟩ y3).cell? ⟨b, 3, none⟩ = some y3 ∧
      Below w.heap.size w ((((W.setCell ⟨b, 0, none⟩ y0).setCell ⟨b, 1, none⟩ y1).setCell ⟨b, 2, none⟩ y2).setCell ⟨b, 3, none⟩ y3) ∧ TmV (fun g => w.heap.size ≤ g) ((((W.setCell ⟨b, 0, none⟩ y0).setCell ⟨b, 1, none⟩ y1).setCell ⟨b, 2, none⟩ y2).setCell ⟨b, 3, none⟩ y3) n (.agg #[y0, y1, y2, y3]) := by
  have hbox := set4_box hres y0 y1 y2 y3
  refine ⟨(Lib.cell_of_heap (w := set4 W b 0 y0 y1 y2 y3) hbox _).trans rfl, (Lib.cell_of_heap (w := set4 W b 0 y0 y1 y2 y3) hbox _).trans rfl, (Lib.cell_of_heap (w := set4 W b 0 y0 y1 y2 y3) hbox _).trans rfl, (Lib.cell_of_heap (w := set4 W b 0 y0 y1 y2 y3) hbox _).trans rfl, hB.trans (set4_below W _ b 0 y0 y1 y2 y3 hb), y0, y1, y2, y3, rfl, ?_⟩
  have hst : Stays S W (set4 W b 0 y0 y1 y2 y3) := ⟨by rw [set4_size]; exact Nat.le_refl _, fun p hp _ => cell_same (set4_other _ _ _ _ _ _ _ _ (hS _ hp).2)⟩
  exact TmC.mono (fun g hg => (hS g hg).1) _ _ _ _ _ (TmC.stays hst _ _ _ _ _ h)
/-- append of one term to a list that is cut at its end. -/
theorem grows_terms (W : World) (K : Option Addr) (n : Nat) (cs : List Value) (hl : cs.length = n * 4) (hK : 0 < n → ∃ g off, K = some ⟨g, off, none⟩ ∧ ∀ j u, cs[j]? = some u → W.cell? ⟨g, off + j, none⟩ = some u) (hn : n ≤ 100000)
    (a : Addr) (c : Nat) (news : List Value) (hm : news.length = 4) (h1 : ∀ u ∈ news, u.oneCell' = true) (hnews : ∀ j u, news[j]? = some u → W.cell? (a.add j) = some u) :
    ∃ v' w', (Builtin.append_ #[22, 22] 22 #[.slice K n n, .slice (some a) 1 c]).run Tryd.prog W = .ok v' w' ∧ w'.ownsRow W.heap.size 26 4 v' (n + 1) (cs ++ news) ∧ Below W.heap.size W w' := by
  rcases K with _ | b
  · have h0 : n = 0 := by
      rcases Nat.eq_zero_or_pos n with h0 | h0
      · exact h0
      · obtain ⟨_, _, e, _⟩ := hK h0; cases e
    subst h0
    have hc : cs = [] := List.eq_nil_of_length_eq_zero (by omega)
    subst hc
    obtain ⟨v', w', hr, hown, hg, _⟩ := app_terms W W.heap.size (.slice none 0 0) 0 [] (World.ownsRow_nil _ _ _ _) a 1 c news (by omega) h1 hnews (by omega) (Nat.le_refl _)
    exact ⟨v', w', hr, hown, (Below.refl _ _).grown hg (Nat.le_refl _) fun j hj => by cases hj⟩
  · obtain ⟨i0, hi, hz0, hz1, hz2⟩ := info_parts Tryd.infoTerm
    have holds : ∀ j u, cs[j]? = some u → W.cell? (b.add j) = some u := fun j u hu => by
      have hj := (List.getElem?_eq_some_iff.1 hu).1
      obtain ⟨g, off, e, hc⟩ := hK (by omega)
      cases e
      rw [Addr.add_lit]
      exact hc j u hu
    obtain ⟨v', w', hr, hown, hg⟩ := run_append_arg_grows (P := Tryd.prog) W 22 22 26 i0 (.agg #[.int .i64 0, .int .i64 0, .slice none 0 0, .slice none 0 0]) 4 64 Tryd.underlying22 hi hz0 hz1 hz2 rfl (by decide) b n n cs hl holds a 1 c news (by omega) hnews (by omega) (by unfold maxLen; omega) (by omega)
    exact ⟨v', w', hr, hown, (Below.refl _ _).grown hg (Nat.le_refl _) fun j hj => by cases hj⟩
/-- A row of the call's own, as the list of a term's kids. -/
theorem own_term {W : World} {base n : Nat} {v : Value} {cs : List Value} {ks : List Tm} {S : Nat → Prop} {o m : Int} (ho : I64 o) (hm : I64 m) (hown : W.ownsRow base 26 4 v n cs) (hq : Quads S W ks cs) (hn : ks.length = n) (B : Nat → Prop) (hS : ∀ g, S g → B g) (hB : ∀ g, base ≤ g → g < W.heap.size → B g) :
    ∃ A c, v = .slice A n c ∧ TmC B W (.mk o m [] ks) (.int .i64 o) (.int .i64 m) (.slice none 0 0) (.slice A n c) := by
  subst hn
  obtain ⟨A, c, rfl, h1, h2, h3⟩ := own4_shape hown
  refine ⟨A, c, rfl, ?_⟩
  unfold TmC
  refine ⟨rfl, ho, rfl, hm, ⟨none, 0, 0, rfl, Nat.le_refl _, Nat.zero_le _, Bys.nil_ _ _, fun h => absurd h (by omega)⟩, A, c, rfl, h1, h2, fun hpos => ?_⟩
  obtain ⟨g, rfl, hg1, hg2⟩ := h3 hpos
  refine ⟨g, 0, rfl, hg2, hB g hg1 hg2, Quads.kids (hq.mono hS) fun j u hu => ?_⟩
  rw [Nat.zero_add]
  have hj := (List.getElem?_eq_some_iff.1 hu).1
  rw [hown.cellAt j (by rw [← hown.1]; exact hj)]
  exact hu
/-- Two terms' boxes and a place for the answer. -/
def Boxes (w : World) (a0 a1 a2 a3 b0 b1 b2 b3 : Value) (W : World) : Prop :=
  Below w.heap.size w W ∧ W.heap[w.heap.size]? = some (.cells #[a0, a1, a2, a3] 26) ∧ W.heap[w.heap.size + 1]? = some (.cells #[b0, b1, b2, b3] 26) ∧ W.heap[w.heap.size + 1 + 1]? = some (.cells #[.int .i64 0, .int .i64 0, .slice none 0 0, .slice none 0 0] 26) ∧ w.heap.size + 3 ≤ W.heap.size
theorem boxes_new (w : World) (a0 a1 a2 a3 b0 b1 b2 b3 : Value) : Boxes w a0 a1 a2 a3 b0 b1 b2 b3 (((w.alloc (.cells #[a0, a1, a2, a3] 26)).alloc (.cells #[b0, b1, b2, b3] 26)).alloc (.cells #[.int .i64 0, .int .i64 0, .slice none 0 0, .slice none 0 0] 26)) := by
  refine ⟨((below_new _ _).alloc (by simp) _).alloc (by simp; omega) _, ?_, ?_, ?_, by simp⟩
  · rw [heap_old_ _ _ (by simp; omega), heap_old_ _ _ (by simp)]; exact heap_new_ _ _
  · rw [heap_old_ _ _ (by simp)]
    have := heap_new_ (w.alloc (.cells #[a0, a1, a2, a3] 26)) (.cells #[b0, b1, b2, b3] 26)
    rwa [show (w.alloc (.cells #[a0, a1, a2, a3] 26)).heap.size = w.heap.size + 1 by simp] at this
  · have := heap_new_ ((w.alloc (.cells #[a0, a1, a2, a3] 26)).alloc (.cells #[b0, b1, b2, b3] 26)) (.cells #[.int .i64 0, .int .i64 0, .slice none 0 0, .slice none 0 0] 26)
    rwa [show ((w.alloc (.cells #[a0, a1, a2, a3] 26)).alloc (.cells #[b0, b1, b2, b3] 26)).heap.size = w.heap.size + 1 + 1 by simp] at this
theorem Boxes.below {w : World} {a0 a1 a2 a3 b0 b1 b2 b3 : Value} {W W' : World} (h : Boxes w a0 a1 a2 a3 b0 b1 b2 b3 W) (hb : Below W.heap.size W W') : Boxes w a0 a1 a2 a3 b0 b1 b2 b3 W' := by
  obtain ⟨h1, h2, h3, h4, h5⟩ := h
  exact ⟨h1.trans (hb.mono h1.size), (hb.block _ (by omega)).trans h2, (hb.block _ (by omega)).trans h3, (hb.block _ (by omega)).trans h4, Nat.le_trans h5 hb.size⟩
theorem Boxes.one {w : World} {a0 a1 a2 a3 b0 b1 b2 b3 : Value} {W : World} (h : Boxes w a0 a1 a2 a3 b0 b1 b2 b3 W) : W.cell? ⟨w.heap.size, 0, none⟩ = some a0 ∧ W.cell? ⟨w.heap.size, 1, none⟩ = some a1 ∧ W.cell? ⟨w.heap.size, 2, none⟩ = some a2 ∧ W.cell? ⟨w.heap.size, 3, none⟩ = some a3 :=
  ⟨by rw [Lib.cell_of_heap h.2.1]; rfl, by rw [Lib.cell_of_heap h.2.1]; rfl, by rw [Lib.cell_of_heap h.2.1]; rfl, by rw [Lib.cell_of_heap h.2.1]; rfl⟩
theorem Boxes.two {w : World} {a0 a1 a2 a3 b0 b1 b2 b3 : Value} {W : World} (h : Boxes w a0 a1 a2 a3 b0 b1 b2 b3 W) : W.cell? ⟨w.heap.size + 1, 0, none⟩ = some b0 ∧ W.cell? ⟨w.heap.size + 1, 1, none⟩ = some b1 ∧ W.cell? ⟨w.heap.size + 1, 2, none⟩ = some b2 ∧ W.cell? ⟨w.heap.size + 1, 3, none⟩ = some b3 :=
  ⟨by rw [Lib.cell_of_heap h.2.2.1]; rfl, by rw [Lib.cell_of_heap h.2.2.1]; rfl, by rw [Lib.cell_of_heap h.2.2.1]; rfl, by rw [Lib.cell_of_heap h.2.2.1]; rfl⟩
theorem Boxes.res {w : World} {a0 a1 a2 a3 b0 b1 b2 b3 : Value} {W : World} (h : Boxes w a0 a1 a2 a3 b0 b1 b2 b3 W) : W.cell? ⟨w.heap.size + 1 + 1, 0, none⟩ = some (.int .i64 0) ∧ W.cell? ⟨w.heap.size + 1 + 1, 1, none⟩ = some (.int .i64 0) ∧ W.cell? ⟨w.heap.size + 1 + 1, 2, none⟩ = some (.slice none 0 0) ∧ W.cell? ⟨w.heap.size + 1 + 1, 3, none⟩ = some (.slice none 0 0) ∧
    W.frozen? ⟨w.heap.size + 1 + 1, 0, none⟩ = false ∧ W.frozen? ⟨w.heap.size + 1 + 1, 1, none⟩ = false ∧ W.frozen? ⟨w.heap.size + 1 + 1, 2, none⟩ = false ∧ W.frozen? ⟨w.heap.size + 1 + 1, 3, none⟩ = false :=
  ⟨by rw [Lib.cell_of_heap h.2.2.2.1]; rfl, by rw [Lib.cell_of_heap h.2.2.2.1]; rfl, by rw [Lib.cell_of_heap h.2.2.2.1]; rfl, by rw [Lib.cell_of_heap h.2.2.2.1]; rfl, Lib.frozen_of_heap h.2.2.2.1 _, Lib.frozen_of_heap h.2.2.2.1 _, Lib.frozen_of_heap h.2.2.2.1 _, Lib.frozen_of_heap h.2.2.2.1 _⟩
theorem term_kids {B : Nat → Prop} {w : World} {o m : Int} {d : List Int} {ks : List Tm} {c0 c1 c2 : Value} {K : Option Addr} {lk ck : Nat} (h : TmC B w (.mk o m d ks) c0 c1 c2 (.slice K lk ck)) :
    ks.length = lk ∧ lk ≤ ck ∧ ck ≤ maxLen ∧ ∃ cs, Quads B w ks cs ∧ cs.length = lk * 4 ∧ (∀ u ∈ cs, u.oneCell' = true) ∧ (0 < lk → ∃ g off, K = some ⟨g, off, none⟩ ∧ g < w.heap.size ∧ ∀ j u, cs[j]? = some u → w.cell? ⟨g, off + j, none⟩ = some u) := by
  unfold TmC at h
  obtain ⟨_, _, _, _, _, K', ck', e, h1, h2, h3⟩ := h
  cases e
  refine ⟨rfl, h1, h2, ?_⟩
  rcases Nat.eq_zero_or_pos ks.length with h0 | h0
  · have hk0 : ks = [] := List.eq_nil_of_length_eq_zero h0
    subst hk0
    exact ⟨[], rfl, rfl, fun u hu => by simp at hu, fun h => absurd h (by simp)⟩
  · obtain ⟨g, off, e, hg, _, hks⟩ := h3 h0
    obtain ⟨cs, hq, hc⟩ := Quads.of hks
    exact ⟨cs, hq, hq.len, hq.one, fun _ => ⟨g, off, e, hg, hc⟩⟩
theorem right_len {o m : Int} {d : List Int} {ks : List Tm} {outer : Nat} (h : rightF (.mk o m d ks) outer = true) : ks.length ≤ 4 := (alone_data (right_mk.1 h).2.1).2
theorem szTs_app : ∀ (a b : List Tm), szTs (a ++ b) = szTs a + szTs b
  | [], b => by rw [List.nil_append, show szTs [] = 0 by unfold szTs; rfl]; omega
  | k :: a, b => by
    have e : ∀ l, szTs (k :: l) = szT k + szTs l := fun l => by conv => lhs; unfold szTs
    rw [List.cons_append, e, e, szTs_app a b]; omega
theorem pow_sz {o m : Int} {d : List Int} {ks : List Tm} {x : Tm} (h : szT (.mk o m d ks) + szT x ≤ 100000) : szT (.mk 7 0 [] (ks ++ [x])) ≤ 100000 := by
  unfold szT
  rw [szTs_app]
  have e1 : szT (.mk o m d ks) = szTs ks + 1 := by unfold szT; rfl
  have e2 : szTs [x] = szT x := by
    rw [show szTs [x] = szT x + szTs [] by conv => lhs; unfold szTs]
    rw [show szTs [] = 0 by unfold szTs; rfl]; rfl
  omega
theorem pow_fit {t0 m : Int} {d : List Int} {ks : List Tm} {x : Tm} (h : rightF (.mk t0 m d ks) 0 = true) (hx : rightF x 0 = true) : fitD (.mk 7 0 [] (ks ++ [x])) := by
  have h1 := right_fit _ _ (Nat.le_refl _) _ h
  have h2 := right_fit _ _ (Nat.le_refl _) _ hx
  unfold fitD at h1 ⊢
  refine ⟨by simp, fitDs_all.2 fun k hk => ?_⟩
  rcases List.mem_append.1 hk with hk | hk
  · exact fitDs_all.1 h1.2 k hk
  · rw [List.mem_singleton] at hk; subst hk; exact h2
def PowPost (w : World) (r : Option Tm) (e : Ending) (w' : World) : Prop := ∃ v', e = .returned (.tuple #[v', .bool r.isSome]) ∧ TmV (fun g => w.heap.size ≤ g) w' (r.getD (.mk 0 0 [] [])) v' ∧ Below w.heap.size w w'
end Go.Proofs.YtlnclgpbobaedaaDoor.tmc
namespace Go.Proofs.YtlnclgpbobaedaaDoor.tmc
open Go.RowKit Go.Proofs.YtlnclgpbobaedaaDoor.tlvc
set_option linter.unusedVariables false
end Go.Proofs.YtlnclgpbobaedaaDoor.tmc
