/- What the walks of Pow stand on. terms.Pow: a power's power. -/
import Derived.Test.YtlhogjigdmpokaaGreatDoorTc
import Derived.ArgAppend
import Derived.Test.YtlhogjigdmpokaaGreatDoorTd
import Derived.RegionTactic
import Derived.Deep.QuietTactic
import Derived.Deep.RegionLaw
import Derived.BigQuiet
namespace Go.Proofs.YtlhogjigdmpokaaGreatDoor.tmc
open Go.RowKit Go.Proofs.YtlhogjigdmpokaaGreatDoor.tlvc
set_option linter.unusedVariables false
/-- append to a slice of bytes or terms, as one step of a region that draws. -/
theorem step_run {P : Program} {ops : Array Oper} {o : Oper} {a : Act} {w w' : World} {K : Act → World → Prop} {Q : Exit → Act → World → Prop} {E : Prop}
    (hg : o.guard = none) (s x : Operand) (t : TypeId) (hop : o.op = Op.call { callee := Callee.builtin Builtin.append, args := #[s, x], argTypes := #[t, t] })
    (v vs vx : Value) (hs : a.eval s = vs) (hx : a.eval x = vx) (hrun : (Builtin.append_ #[t, t] o.type #[vs, vx]).run P w = .ok v w') (hK : K (a.put o.dst v) w') :
    if Region.wanted o (yielded ops a.tmps) = true then Oper.wp P o a w K Q else E := by
  have hw : Region.wanted o (yielded ops a.tmps) = true := by simp [Region.wanted, hg]
  rw [if_pos hw]
  unfold Oper.wp
  simp [execOp, hop, resolve, invoke, builtin, hs, hx, hrun, Result.andThen]
  exact hK
/-- A term laid where an answer stands. -/
theorem res_end {w W : World} {b : Nat} {x0 x1 x2 x3 y0 y1 y2 y3 : Value} {T : TypeId} {fr : Nat × Nat} {n : Tm} {S : Nat → Prop} (hb : w.heap.size ≤ b) (hB : Below w.heap.size w W) (hres : W.heap[b]? = some (.cells #[x0, x1, x2, x3] T fr)) (hS : ∀ g, S g → w.heap.size ≤ g ∧ g ≠ b) (h : TmC S W n y0 y1 y2 y3) :
    ((((W.setCell ⟨b, 0, none⟩ y0).setCell ⟨b, 1, none⟩ y1).setCell ⟨b, 2, none⟩ y2).setCell ⟨b, 3, none⟩ y3).cell? ⟨b, 0, none⟩ = some y0 ∧ ((((W.setCell ⟨b, 0, none⟩ y0).setCell ⟨b, 1, none⟩ y1).setCell ⟨b, 2, none⟩ y2).setCell ⟨b, 3, none⟩ y3).cell? ⟨b, 1, none⟩ = some y1 ∧ ((((W.setCell ⟨b, 0, none⟩ y0).setCell ⟨b, 1, none⟩ y1).setCell ⟨b, 2, none⟩ y2).setCell ⟨b, 3, none⟩ y3).cell? ⟨b, 2, none⟩ = some y2 ∧ ((((W.setCell ⟨b, 0, none⟩ y0).setCell ⟨b, 1, none⟩ y1).setCell ⟨b, 2, none⟩ y2).setCell ⟨b, 3, none⟩ y3).cell? ⟨b, 3, none⟩ = some y3 ∧
      Below w.heap.size w ((((W.setCell ⟨b, 0, none⟩ y0).setCell ⟨b, 1, none⟩ y1).setCell ⟨b, 2, none⟩ y2).setCell ⟨b, 3, none⟩ y3) ∧ TmV (fun g => w.heap.size ≤ g) ((((W.setCell ⟨b, 0, none⟩ y0).setCell ⟨b, 1, none⟩ y1).setCell ⟨b, 2, none⟩ y2).setCell ⟨b, 3, none⟩ y3) n (.agg #[y0, y1, y2, y3]) := by
  have hbox := set4_box hres y0 y1 y2 y3
  refine ⟨(Lib.cell_of_heap (w := set4 W b 0 y0 y1 y2 y3) hbox _).trans rfl, (Lib.cell_of_heap (w := set4 W b 0 y0 y1 y2 y3) hbox _).trans rfl, (Lib.cell_of_heap (w := set4 W b 0 y0 y1 y2 y3) hbox _).trans rfl, (Lib.cell_of_heap (w := set4 W b 0 y0 y1 y2 y3) hbox _).trans rfl, hB.trans (set4_below W _ b 0 y0 y1 y2 y3 hb), y0, y1, y2, y3, rfl, ?_⟩
  have hst : Stays S W (set4 W b 0 y0 y1 y2 y3) := ⟨by rw [set4_size]; exact Nat.le_refl _, fun p hp _ => cell_same (set4_other _ _ _ _ _ _ _ _ (hS _ hp).2)⟩
  exact TmC.mono (fun g hg => (hS g hg).1) _ _ _ _ _ (TmC.stays hst _ _ _ _ _ h)
/-- append of one term to a list that is cut at its end. -/
theorem grows_terms (W : World) (K : Option Addr) (n : Nat) (cs : List Value) (hl : cs.length = n * 4) (hK : 0 < n → ∃ g off, K = some ⟨g, off, none⟩ ∧ ∀ j u, cs[j]? = some u → W.cell? ⟨g, off + j, none⟩ = some u) (hn : n ≤ 100000)
    (a : Addr) (c : Nat) (news : List Value) (hm : news.length = 4) (h1 : ∀ u ∈ news, u.oneCell' = true) (hnews : ∀ j u, news[j]? = some u → W.cell? (a.add j) = some u) :
    ∃ v' w', (Builtin.append_ #[22, 22] 22 #[.slice K n n, .slice (some a) 1 c]).run Tryz.prog W = .ok v' w' ∧ w'.ownsRow W.heap.size 43 4 v' (n + 1) (cs ++ news) ∧ Below W.heap.size W w' := by
  rcases K with _ | b
  · have h0 : n = 0 := by
      rcases Nat.eq_zero_or_pos n with h0 | h0
      · exact h0
      · obtain ⟨_, _, e, _⟩ := hK h0; cases e
    subst h0
    have hc : cs = [] := List.eq_nil_of_length_eq_zero (by omega)
    subst hc
    obtain ⟨v', w', hr, hown, hg, _⟩ := app_terms W W.heap.size (.slice none 0 0) 0 [] (World.ownsRow_nil _ _ _ _) a 1 c news (by omega) h1 hnews (by omega) (Nat.le_refl _)
    exact ⟨v', w', hr, hown, (Below.refl _ _).grown hg (Nat.le_refl _) fun j hj => by cases hj⟩
  · obtain ⟨i0, hi, hz0, hz1, hz2⟩ := info_parts Tryz.infoTerm
    have holds : ∀ j u, cs[j]? = some u → W.cell? (b.add j) = some u := fun j u hu => by
      have hj := (List.getElem?_eq_some_iff.1 hu).1
      obtain ⟨g, off, e, hc⟩ := hK (by omega)
      cases e
      rw [Addr.add_lit]
      exact hc j u hu
    obtain ⟨v', w', hr, hown, hg⟩ := run_append_arg_grows (P := Tryz.prog) W 22 22 43 i0 (.agg #[.int .i64 0, .int .i64 0, .slice none 0 0, .slice none 0 0]) 4 64 Tryz.underlying22 hi hz0 hz1 hz2 rfl (by decide) b n n cs hl holds a 1 c news (by omega) hnews (by omega) (by unfold maxLen; omega) (by omega)
    exact ⟨v', w', hr, hown, (Below.refl _ _).grown hg (Nat.le_refl _) fun j hj => by cases hj⟩
/-- A row of the call's own, as the list of a term's kids. -/
theorem own_term {W : World} {base n : Nat} {v : Value} {cs : List Value} {ks : List Tm} {S : Nat → Prop} {o m : Int} (ho : I64 o) (hm : I64 m) (hown : W.ownsRow base 43 4 v n cs) (hq : Quads S W ks cs) (hn : ks.length = n) (B : Nat → Prop) (hS : ∀ g, S g → B g) (hB : ∀ g, base ≤ g → g < W.heap.size → B g) :
    ∃ A c, v = .slice A n c ∧ TmC B W (.mk o m [] ks) (.int .i64 o) (.int .i64 m) (.slice none 0 0) (.slice A n c) := by
  subst hn
  obtain ⟨A, c, rfl, h1, h2, h3⟩ := own4_shape hown
  refine ⟨A, c, rfl, ?_⟩
  unfold TmC
  refine ⟨rfl, ho, rfl, hm, ⟨none, 0, 0, rfl, Nat.le_refl _, Nat.zero_le _, Bys.nil_ _ _, fun h => absurd h (by omega)⟩, A, c, rfl, h1, h2, fun hpos => ?_⟩
  obtain ⟨g, rfl, hg1, hg2⟩ := h3 hpos
  refine ⟨g, 0, rfl, hg2, hB g hg1 hg2, Quads.kids (hq.mono hS) fun j u hu => ?_⟩
  rw [Nat.zero_add]
  have hj := (List.getElem?_eq_some_iff.1 hu).1
  rw [hown.cellAt j (by rw [← hown.1]; exact hj)]
  exact hu
/-- Two terms' boxes and a place for the answer. -/
def Boxes (w : World) (a0 a1 a2 a3 b0 b1 b2 b3 : Value) (W : World) : Prop :=
  Below w.heap.size w W ∧ W.heap[w.heap.size]? = some (.cells #[a0, a1, a2, a3] 43) ∧ W.heap[w.heap.size + 1]? = some (.cells #[b0, b1, b2, b3] 43) ∧ W.heap[w.heap.size + 1 + 1]? = some (.cells #[.int .i64 0, .int .i64 0, .slice none 0 0, .slice none 0 0] 43) ∧ w.heap.size + 3 ≤ W.heap.size
theorem boxes_new (w : World) (a0 a1 a2 a3 b0 b1 b2 b3 : Value) : Boxes w a0 a1 a2 a3 b0 b1 b2 b3 (((w.alloc (.cells #[a0, a1, a2, a3] 43)).alloc (.cells #[b0, b1, b2, b3] 43)).alloc (.cells #[.int .i64 0, .int .i64 0, .slice none 0 0, .slice none 0 0] 43)) := by
  refine ⟨((below_new _ _).alloc (by simp) _).alloc (by simp; omega) _, ?_, ?_, ?_, by simp⟩
  · rw [heap_old_ _ _ (by simp; omega), heap_old_ _ _ (by simp)]; exact heap_new_ _ _
  · rw [heap_old_ _ _ (by simp)]
    have := heap_new_ (w.alloc (.cells #[a0, a1, a2, a3] 43)) (.cells #[b0, b1, b2, b3] 43)
    rwa [show (w.alloc (.cells #[a0, a1, a2, a3] 43)).heap.size = w.heap.size + 1 by simp] at this
  · have := heap_new_ ((w.alloc (.cells #[a0, a1, a2, a3] 43)).alloc (.cells #[b0, b1, b2, b3] 43)) (.cells #[.int .i64 0, .int .i64 0, .slice none 0 0, .slice none 0 0] 43)
    rwa [show ((w.alloc (.cells #[a0, a1, a2, a3] 43)).alloc (.cells #[b0, b1, b2, b3] 43)).heap.size = w.heap.size + 1 + 1 by simp] at this
theorem Boxes.below {w : World} {a0 a1 a2 a3 b0 b1 b2 b3 : Value} {W W' : World} (h : Boxes w a0 a1 a2 a3 b0 b1 b2 b3 W) (hb : Below W.heap.size W W') : Boxes w a0 a1 a2 a3 b0 b1 b2 b3 W' := by
  obtain ⟨h1, h2, h3, h4, h5⟩ := h
  exact ⟨h1.trans (hb.mono h1.size), (hb.block _ (by omega)).trans h2, (hb.block _ (by omega)).trans h3, (hb.block _ (by omega)).trans h4, Nat.le_trans h5 hb.size⟩
theorem Boxes.one {w : World} {a0 a1 a2 a3 b0 b1 b2 b3 : Value} {W : World} (h : Boxes w a0 a1 a2 a3 b0 b1 b2 b3 W) : W.cell? ⟨w.heap.size, 0, none⟩ = some a0 ∧ W.cell? ⟨w.heap.size, 1, none⟩ = some a1 ∧ W.cell? ⟨w.heap.size, 2, none⟩ = some a2 ∧ W.cell? ⟨w.heap.size, 3, none⟩ = some a3 :=
  ⟨by rw [Lib.cell_of_heap h.2.1]; rfl, by rw [Lib.cell_of_heap h.2.1]; rfl, by rw [Lib.cell_of_heap h.2.1]; rfl, by rw [Lib.cell_of_heap h.2.1]; rfl⟩
theorem Boxes.two {w : World} {a0 a1 a2 a3 b0 b1 b2 b3 : Value} {W : World} (h : Boxes w a0 a1 a2 a3 b0 b1 b2 b3 W) : W.cell? ⟨w.heap.size + 1, 0, none⟩ = some b0 ∧ W.cell? ⟨w.heap.size + 1, 1, none⟩ = some b1 ∧ W.cell? ⟨w.heap.size + 1, 2, none⟩ = some b2 ∧ W.cell? ⟨w.heap.size + 1, 3, none⟩ = some b3 :=
  ⟨by rw [Lib.cell_of_heap h.2.2.1]; rfl, by rw [Lib.cell_of_heap h.2.2.1]; rfl, by rw [Lib.cell_of_heap h.2.2.1]; rfl, by rw [Lib.cell_of_heap h.2.2.1]; rfl⟩
theorem Boxes.res {w : World} {a0 a1 a2 a3 b0 b1 b2 b3 : Value} {W : World} (h : Boxes w a0 a1 a2 a3 b0 b1 b2 b3 W) : W.cell? ⟨w.heap.size + 1 + 1, 0, none⟩ = some (.int .i64 0) ∧ W.cell? ⟨w.heap.size + 1 + 1, 1, none⟩ = some (.int .i64 0) ∧ W.cell? ⟨w.heap.size + 1 + 1, 2, none⟩ = some (.slice none 0 0) ∧ W.cell? ⟨w.heap.size + 1 + 1, 3, none⟩ = some (.slice none 0 0) ∧
    W.frozen? ⟨w.heap.size + 1 + 1, 0, none⟩ = false ∧ W.frozen? ⟨w.heap.size + 1 + 1, 1, none⟩ = false ∧ W.frozen? ⟨w.heap.size + 1 + 1, 2, none⟩ = false ∧ W.frozen? ⟨w.heap.size + 1 + 1, 3, none⟩ = false :=
  ⟨by rw [Lib.cell_of_heap h.2.2.2.1]; rfl, by rw [Lib.cell_of_heap h.2.2.2.1]; rfl, by rw [Lib.cell_of_heap h.2.2.2.1]; rfl, by rw [Lib.cell_of_heap h.2.2.2.1]; rfl, Lib.frozen_of_heap h.2.2.2.1 _, Lib.frozen_of_heap h.2.2.2.1 _, Lib.frozen_of_heap h.2.2.2.1 _, Lib.frozen_of_heap h.2.2.2.1 _⟩
theorem term_kids {B : Nat → Prop} {w : World} {o m : Int} {d : List Int} {ks : List Tm} {c0 c1 c2 : Value} {K : Option Addr} {lk ck : Nat} (h : TmC B w (.mk o m d ks) c0 c1 c2 (.slice K lk ck)) :
    ks.length = lk ∧ lk ≤ ck ∧ ck ≤ maxLen ∧ ∃ cs, Quads B w ks cs ∧ cs.length = lk * 4 ∧ (∀ u ∈ cs, u.oneCell' = true) ∧ (0 < lk → ∃ g off, K = some ⟨g, off, none⟩ ∧ g < w.heap.size ∧ ∀ j u, cs[j]? = some u → w.cell? ⟨g, off + j, none⟩ = some u) := by
  unfold TmC at h
  obtain ⟨_, _, _, _, _, K', ck', e, h1, h2, h3⟩ := h
  cases e
  refine ⟨rfl, h1, h2, ?_⟩
  rcases Nat.eq_zero_or_pos ks.length with h0 | h0
  · have hk0 : ks = [] := List.eq_nil_of_length_eq_zero h0
    subst hk0
    exact ⟨[], rfl, rfl, fun u hu => by simp at hu, fun h => absurd h (by simp)⟩
  · obtain ⟨g, off, e, hg, _, hks⟩ := h3 h0
    obtain ⟨cs, hq, hc⟩ := Quads.of hks
    exact ⟨cs, hq, hq.len, hq.one, fun _ => ⟨g, off, e, hg, hc⟩⟩
theorem right_len {o m : Int} {d : List Int} {ks : List Tm} {outer : Nat} (h : rightF (.mk o m d ks) outer = true) : ks.length ≤ 4 := (alone_data (right_mk.1 h).2.1).2
theorem szTs_app : ∀ (a b : List Tm), szTs (a ++ b) = szTs a + szTs b
  | [], b => by rw [List.nil_append, show szTs [] = 0 by unfold szTs; rfl]; omega
  | k :: a, b => by
    have e : ∀ l, szTs (k :: l) = szT k + szTs l := fun l => by conv => lhs; unfold szTs
    rw [List.cons_append, e, e, szTs_app a b]; omega
theorem pow_sz {o m : Int} {d : List Int} {ks : List Tm} {x : Tm} (h : szT (.mk o m d ks) + szT x ≤ 100000) : szT (.mk 7 0 [] (ks ++ [x])) ≤ 100000 := by
  unfold szT
  rw [szTs_app]
  have e1 : szT (.mk o m d ks) = szTs ks + 1 := by unfold szT; rfl
  have e2 : szTs [x] = szT x := by
    rw [show szTs [x] = szT x + szTs [] by conv => lhs; unfold szTs]
    rw [show szTs [] = 0 by unfold szTs; rfl]; rfl
  omega
theorem pow_fit {t0 m : Int} {d : List Int} {ks : List Tm} {x : Tm} (h : rightF (.mk t0 m d ks) 0 = true) (hx : rightF x 0 = true) : fitD (.mk 7 0 [] (ks ++ [x])) := by
  have h1 := right_fit _ _ (Nat.le_refl _) _ h
  have h2 := right_fit _ _ (Nat.le_refl _) _ hx
  unfold fitD at h1 ⊢
  refine ⟨by simp, fitDs_all.2 fun k hk => ?_⟩
  rcases List.mem_append.1 hk with hk | hk
  · exact fitDs_all.1 h1.2 k hk
  · rw [List.mem_singleton] at hk; subst hk; exact h2
def PowPost (w : World) (r : Option Tm) (e : Ending) (w' : World) : Prop := ∃ v', e = .returned (.tuple #[v', .bool r.isSome]) ∧ TmV (fun g => w.heap.size ≤ g) w' (r.getD (.mk 0 0 [] [])) v' ∧ Below w.heap.size w w'
end Go.Proofs.YtlhogjigdmpokaaGreatDoor.tmc
namespace Go.Proofs.YtlhogjigdmpokaaGreatDoor.tmc
open Go.RowKit Go.Proofs.YtlhogjigdmpokaaGreatDoor.tlvc
set_option linter.unusedVariables false
set_option maxRecDepth 100000 in
set_option maxHeartbeats 4000000 in
theorem pow_no1 (t x : Tm) (B C : Nat → Prop) (v u : Value) (w : World) (hv : TmV B w t v) (hu : TmV C w x u) (h7 : t.op ≠ 7) : Calls Tryz.prog 44 #[v, u] w (PowPost w none) := by
  obtain ⟨o, m, d, ks⟩ := t
  obtain ⟨o', m', d', ls⟩ := x
  obtain ⟨c0, c1, c2, c3, rfl, hc⟩ := hv
  obtain ⟨e0, e1, e2, e3, rfl, he⟩ := hu
  obtain ⟨oo, mm, A, la, ca, K, lk, ck, rfl, rfl, rfl, rfl⟩ := hc.shape
  obtain ⟨oo', mm', A', la', ca', K', lk', ck', rfl, rfl, rfl, rfl⟩ := he.shape
  have hoo : oo = o := by unfold TmC at hc; have := hc.1; cases this; rfl
  subst hoo
  have hb7 : (oo == 7) = false := by simpa [Tm.op] using h7
  have hn7 : (oo != 7) = true := by simpa [Tm.op] using h7
  obtain ⟨W0, hW0⟩ : ∃ y, ((w.alloc (.cells #[.int .i64 oo, .int .i64 mm, .slice A la ca, .slice K lk ck] 43)).alloc (.cells #[.int .i64 oo', .int .i64 mm', .slice A' la' ca', .slice K' lk' ck'] 43)).alloc (.cells #[.int .i64 0, .int .i64 0, .slice none 0 0, .slice none 0 0] 43) = y := ⟨_, rfl⟩
  have hbx := boxes_new w (.int .i64 oo) (.int .i64 mm) (.slice A la ca) (.slice K lk ck) (.int .i64 oo') (.int .i64 mm') (.slice A' la' ca') (.slice K' lk' ck')
  rw [hW0] at hbx
  obtain ⟨a0, a1, a2, a3⟩ := hbx.one
  obtain ⟨b0, b1, b2, b3⟩ := hbx.two
  obtain ⟨z0, z1, z2, z3, f0, f1, f2, f3⟩ := hbx.res
  obtain ⟨r0, r1, r2, r3, hB, hT⟩ := res_end (w := w) (b := w.heap.size + 1 + 1) (S := fun g => w.heap.size ≤ g ∧ g ≠ w.heap.size + 1 + 1) (by omega) hbx.1 hbx.2.2.2.1 (fun g hg => hg) (nil_tm _ _)
  have HE := Lib.hid (And.intro hB hT)
  clear hB hT
  have HBX := Lib.hid hbx
  clear hbx hc he h7
  go_enter Tryz.func44, Tryz.ntmps44
  unfold PowPost
  go_wp2_with fail
  refine bodyPost_ret (v := .tuple #[.agg #[.int .i64 0, .int .i64 0, .slice none 0 0, .slice none 0 0], .bool false]) ?_ rfl ⟨_, rfl, HE.out.2, HE.out.1⟩
  simp [results, Tryz.results44, go_sem, r0, r1, r2, r3]
set_option maxRecDepth 100000 in
set_option maxHeartbeats 4000000 in
theorem pow_no2 (t x : Tm) (B C : Nat → Prop) (v u : Value) (w : World) (hv : TmV B w t v) (hu : TmV C w x u) (h7 : t.op = 7) (hr : rightF t 0 = false) : Calls Tryz.prog 44 #[v, u] w (PowPost w none) := by
  obtain ⟨o, m, d, ks⟩ := t
  obtain ⟨o', m', d', ls⟩ := x
  obtain ⟨c0, c1, c2, c3, rfl, hc⟩ := hv
  obtain ⟨e0, e1, e2, e3, rfl, he⟩ := hu
  obtain ⟨oo, mm, A, la, ca, K, lk, ck, rfl, rfl, rfl, rfl⟩ := hc.shape
  obtain ⟨oo', mm', A', la', ca', K', lk', ck', rfl, rfl, rfl, rfl⟩ := he.shape
  have hoo : oo = o := by unfold TmC at hc; have := hc.1; cases this; rfl
  subst hoo
  have h7 : oo = 7 := h7
  subst h7
  obtain ⟨W0, hW0⟩ : ∃ y, ((w.alloc (.cells #[.int .i64 7, .int .i64 mm, .slice A la ca, .slice K lk ck] 43)).alloc (.cells #[.int .i64 oo', .int .i64 mm', .slice A' la' ca', .slice K' lk' ck'] 43)).alloc (.cells #[.int .i64 0, .int .i64 0, .slice none 0 0, .slice none 0 0] 43) = y := ⟨_, rfl⟩
  have hbx := boxes_new w (.int .i64 7) (.int .i64 mm) (.slice A la ca) (.slice K lk ck) (.int .i64 oo') (.int .i64 mm') (.slice A' la' ca') (.slice K' lk' ck')
  rw [hW0] at hbx
  have h1 := right_any _ B (.agg #[.int .i64 7, .int .i64 mm, .slice A la ca, .slice K lk ck]) W0 ⟨_, _, _, _, rfl, TmC.below hbx.1 _ _ _ _ _ hc⟩
  rw [hr] at h1
  have H1 := Lib.hid h1
  have HBX := Lib.hid hbx
  obtain ⟨a0, a1, a2, a3⟩ := hbx.one
  obtain ⟨b0, b1, b2, b3⟩ := hbx.two
  obtain ⟨z0, z1, z2, z3, f0, f1, f2, f3⟩ := hbx.res
  clear h1 hbx hc he hr z0 z1 z2 z3 f0 f1 f2 f3
  go_enter Tryz.func44, Tryz.ntmps44
  unfold PowPost
  go_wp2_with fail
  clear hW0
  refine H1.out.mono ?_
  rintro e w1 ⟨rfl, hb1⟩
  have hbx1 := HBX.out.below hb1
  clear a0 a1 a2 a3 b0 b1 b2 b3 H1 HBX hb1
  obtain ⟨a0, a1, a2, a3⟩ := hbx1.one
  obtain ⟨b0, b1, b2, b3⟩ := hbx1.two
  obtain ⟨z0, z1, z2, z3, f0, f1, f2, f3⟩ := hbx1.res
  obtain ⟨r0, r1, r2, r3, hB, hT⟩ := res_end (w := w) (b := w.heap.size + 1 + 1) (S := fun g => w.heap.size ≤ g ∧ g ≠ w.heap.size + 1 + 1) (by omega) hbx1.1 hbx1.2.2.2.1 (fun g hg => hg) (nil_tm _ _)
  have HE := Lib.hid (And.intro hB hT)
  clear hB hT
  clear hbx1
  go_wp2_with fail
  refine bodyPost_ret (v := .tuple #[.agg #[.int .i64 0, .int .i64 0, .slice none 0 0, .slice none 0 0], .bool false]) ?_ rfl ⟨_, rfl, HE.out.2, HE.out.1⟩
  simp [results, Tryz.results44, go_sem, r0, r1, r2, r3]
set_option maxRecDepth 100000 in
set_option maxHeartbeats 4000000 in
theorem pow_no3 (t x : Tm) (B C : Nat → Prop) (v u : Value) (w : World) (hv : TmV B w t v) (hu : TmV C w x u) (h7 : t.op = 7) (hr : rightF t 0 = true) (hrx : rightF x 0 = false) : Calls Tryz.prog 44 #[v, u] w (PowPost w none) := by
  obtain ⟨o, m, d, ks⟩ := t
  obtain ⟨o', m', d', ls⟩ := x
  obtain ⟨c0, c1, c2, c3, rfl, hc⟩ := hv
  obtain ⟨e0, e1, e2, e3, rfl, he⟩ := hu
  obtain ⟨oo, mm, A, la, ca, K, lk, ck, rfl, rfl, rfl, rfl⟩ := hc.shape
  obtain ⟨oo', mm', A', la', ca', K', lk', ck', rfl, rfl, rfl, rfl⟩ := he.shape
  have hoo : oo = o := by unfold TmC at hc; have := hc.1; cases this; rfl
  subst hoo
  have h7 : oo = 7 := h7
  subst h7
  obtain ⟨W0, hW0⟩ : ∃ y, ((w.alloc (.cells #[.int .i64 7, .int .i64 mm, .slice A la ca, .slice K lk ck] 43)).alloc (.cells #[.int .i64 oo', .int .i64 mm', .slice A' la' ca', .slice K' lk' ck'] 43)).alloc (.cells #[.int .i64 0, .int .i64 0, .slice none 0 0, .slice none 0 0] 43) = y := ⟨_, rfl⟩
  have hbx := boxes_new w (.int .i64 7) (.int .i64 mm) (.slice A la ca) (.slice K lk ck) (.int .i64 oo') (.int .i64 mm') (.slice A' la' ca') (.slice K' lk' ck')
  rw [hW0] at hbx
  have h1 := right_any _ B (.agg #[.int .i64 7, .int .i64 mm, .slice A la ca, .slice K lk ck]) W0 ⟨_, _, _, _, rfl, TmC.below hbx.1 _ _ _ _ _ hc⟩
  rw [hr] at h1
  have h2 := fun W (hW : Below w.heap.size w W) => right_any _ C (.agg #[.int .i64 oo', .int .i64 mm', .slice A' la' ca', .slice K' lk' ck']) W ⟨_, _, _, _, rfl, TmC.below hW _ _ _ _ _ he⟩
  rw [hrx] at h2
  have H1 := Lib.hid h1
  have H2 := Lib.hid h2
  have HBX := Lib.hid hbx
  obtain ⟨a0, a1, a2, a3⟩ := hbx.one
  obtain ⟨b0, b1, b2, b3⟩ := hbx.two
  obtain ⟨z0, z1, z2, z3, f0, f1, f2, f3⟩ := hbx.res
  clear h1 h2 hbx hc he hr hrx z0 z1 z2 z3 f0 f1 f2 f3
  go_enter Tryz.func44, Tryz.ntmps44
  unfold PowPost
  go_wp2_with fail
  clear hW0
  refine H1.out.mono ?_
  rintro e w1 ⟨rfl, hb1⟩
  have hbx1 := HBX.out.below hb1
  clear a0 a1 a2 a3 b0 b1 b2 b3 H1 HBX hb1
  obtain ⟨a0, a1, a2, a3⟩ := hbx1.one
  obtain ⟨b0, b1, b2, b3⟩ := hbx1.two
  obtain ⟨z0, z1, z2, z3, f0, f1, f2, f3⟩ := hbx1.res
  have h3 := H2.out w1 hbx1.1
  have H3 := Lib.hid h3
  have HBX1 := Lib.hid hbx1
  clear h3 hbx1 H2
  go_wp2_with fail
  refine H3.out.mono ?_
  rintro e w2 ⟨rfl, hb2⟩
  have hbx2 := HBX1.out.below hb2
  clear a0 a1 a2 a3 b0 b1 b2 b3 z0 z1 z2 z3 f0 f1 f2 f3 H3 HBX1 hb2
  obtain ⟨a0, a1, a2, a3⟩ := hbx2.one
  obtain ⟨b0, b1, b2, b3⟩ := hbx2.two
  obtain ⟨z0, z1, z2, z3, f0, f1, f2, f3⟩ := hbx2.res
  obtain ⟨r0, r1, r2, r3, hB, hT⟩ := res_end (w := w) (b := w.heap.size + 1 + 1) (S := fun g => w.heap.size ≤ g ∧ g ≠ w.heap.size + 1 + 1) (by omega) hbx2.1 hbx2.2.2.2.1 (fun g hg => hg) (nil_tm _ _)
  have HE := Lib.hid (And.intro hB hT)
  clear hB hT
  clear hbx2
  go_wp2_with fail
  refine bodyPost_ret (v := .tuple #[.agg #[.int .i64 0, .int .i64 0, .slice none 0 0, .slice none 0 0], .bool false]) ?_ rfl ⟨_, rfl, HE.out.2, HE.out.1⟩
  simp [results, Tryz.results44, go_sem, r0, r1, r2, r3]
set_option maxRecDepth 100000 in
set_option maxHeartbeats 8000000 in
theorem pow_yes (t x : Tm) (B C : Nat → Prop) (v u : Value) (w : World) (hv : TmV B w t v) (hu : TmV C w x u) (h7 : t.op = 7) (hr : rightF t 0 = true) (hrx : rightF x 0 = true) (hsz : szT t + szT x ≤ 100000) : Calls Tryz.prog 44 #[v, u] w (PowPost w (if rightF (pow0 t x) 0 = true then some (pow0 t x) else none)) := by
  obtain ⟨R, hR⟩ : ∃ y, (if rightF (pow0 t x) 0 = true then some (pow0 t x) else none) = y := ⟨_, rfl⟩
  rw [hR]
  have HR := Lib.hid hR
  clear hR
  obtain ⟨o, m, d, ks⟩ := t
  obtain ⟨o', m', d', ls⟩ := x
  obtain ⟨c0, c1, c2, c3, rfl, hc⟩ := hv
  obtain ⟨e0, e1, e2, e3, rfl, he⟩ := hu
  obtain ⟨oo, mm, A, la, ca, K, lk, ck, rfl, rfl, rfl, rfl⟩ := hc.shape
  obtain ⟨oo', mm', A', la', ca', K', lk', ck', rfl, rfl, rfl, rfl⟩ := he.shape
  have hoo : oo = o := by unfold TmC at hc; have := hc.1; cases this; rfl
  subst hoo
  have h7 : oo = 7 := h7
  subst h7
  obtain ⟨W0, hW0⟩ : ∃ y, ((w.alloc (.cells #[.int .i64 7, .int .i64 mm, .slice A la ca, .slice K lk ck] 43)).alloc (.cells #[.int .i64 oo', .int .i64 mm', .slice A' la' ca', .slice K' lk' ck'] 43)).alloc (.cells #[.int .i64 0, .int .i64 0, .slice none 0 0, .slice none 0 0] 43) = y := ⟨_, rfl⟩
  have hbx := boxes_new w (.int .i64 7) (.int .i64 mm) (.slice A la ca) (.slice K lk ck) (.int .i64 oo') (.int .i64 mm') (.slice A' la' ca') (.slice K' lk' ck')
  rw [hW0] at hbx
  have h1 := right_any _ B (.agg #[.int .i64 7, .int .i64 mm, .slice A la ca, .slice K lk ck]) W0 ⟨_, _, _, _, rfl, TmC.below hbx.1 _ _ _ _ _ hc⟩
  rw [hr] at h1
  have h2 := fun W (hW : Below w.heap.size w W) => right_any _ C (.agg #[.int .i64 oo', .int .i64 mm', .slice A' la' ca', .slice K' lk' ck']) W ⟨_, _, _, _, rfl, TmC.below hW _ _ _ _ _ he⟩
  rw [hrx] at h2
  have H1 := Lib.hid h1
  have H2 := Lib.hid h2
  have HBX := Lib.hid hbx
  obtain ⟨a0, a1, a2, a3⟩ := hbx.one
  obtain ⟨b0, b1, b2, b3⟩ := hbx.two
  obtain ⟨z0, z1, z2, z3, f0, f1, f2, f3⟩ := hbx.res
  obtain ⟨hll, hlc, hcm, cs, hq, hcl, hco, hcc⟩ : ks.length = lk ∧ lk ≤ ck ∧ ck ≤ maxLen ∧ ∃ cs, Quads B w ks cs ∧ cs.length = lk * 4 ∧ (∀ u ∈ cs, u.oneCell' = true) ∧ (0 < lk → ∃ g off, K = some ⟨g, off, none⟩ ∧ g < w.heap.size ∧ ∀ j u, cs[j]? = some u → w.cell? ⟨g, off + j, none⟩ = some u) := term_kids hc
  have hn4 : lk ≤ 4 := by rw [← hll]; exact right_len hr
  have hck9 : ck ≤ 9223372036854775807 := by unfold maxLen at hcm; omega
  have HC := Lib.hid hc
  have HE := Lib.hid he
  have HQ := Lib.hid hq
  have HCC := Lib.hid hcc
  have HRT := Lib.hid hr
  have HRX := Lib.hid hrx
  have HCL := Lib.hid hcl
  have HLL := Lib.hid hll
  have HSZ := Lib.hid hsz
  clear h1 h2 hbx hc he hr hrx z0 z1 z2 z3 f0 f1 f2 f3 hq hcl hco hcc hll hsz
  go_enter Tryz.func44, Tryz.ntmps44
  unfold PowPost
  go_wp2_with fail
  clear hW0
  refine H1.out.mono ?_
  rintro e w1 ⟨rfl, hb1⟩
  have hbx1 := HBX.out.below hb1
  clear a0 a1 a2 a3 b0 b1 b2 b3 H1 HBX hb1
  obtain ⟨a0, a1, a2, a3⟩ := hbx1.one
  obtain ⟨b0, b1, b2, b3⟩ := hbx1.two
  obtain ⟨z0, z1, z2, z3, f0, f1, f2, f3⟩ := hbx1.res
  have h3 := H2.out w1 hbx1.1
  have H3 := Lib.hid h3
  have HBX1 := Lib.hid hbx1
  clear h3 hbx1 H2
  go_wp2_with fail
  refine H3.out.mono ?_
  rintro e w2 ⟨rfl, hb2⟩
  have hbx2 := HBX1.out.below hb2
  clear a0 a1 a2 a3 b0 b1 b2 b3 z0 z1 z2 z3 f0 f1 f2 f3 H3 HBX1 hb2
  obtain ⟨a0, a1, a2, a3⟩ := hbx2.one
  obtain ⟨b0, b1, b2, b3⟩ := hbx2.two
  obtain ⟨z0, z1, z2, z3, f0, f1, f2, f3⟩ := hbx2.res
  have HBX2 := Lib.hid hbx2
  clear hbx2 z0 z1 z2 z3 f0 f1 f2 f3
  obtain ⟨WX, hWX⟩ : ∃ y, w2.alloc (.cells #[.int .i64 oo', .int .i64 mm', .slice A' la' ca', .slice K' lk' ck'] 43) = y := ⟨_, rfl⟩
  have hbwx : Below w2.heap.size w2 WX.drew := by rw [← hWX]; exact (below_new _ _).drew
  have hnew : WX.drew.heap[w2.heap.size]? = some (.cells #[.int .i64 oo', .int .i64 mm', .slice A' la' ca', .slice K' lk' ck'] 43) := by show WX.heap[_]? = _; rw [← hWX]; exact heap_new_ _ _
  obtain ⟨vk, W3, hrun, hown, hb3⟩ := grows_terms WX.drew K lk cs HCL.out (fun hp => by
    obtain ⟨g, off, e, hg, hc⟩ := HCC.out hp
    exact ⟨g, off, e, fun j u hu => ((HBX2.out.1.trans (hbwx.mono HBX2.out.1.size)).cell (p := ⟨g, off + j, none⟩) hg).trans (hc j u hu)⟩) (by omega) ⟨w2.heap.size, 0, none⟩ 1 [.int .i64 oo', .int .i64 mm', .slice A' la' ca', .slice K' lk' ck'] rfl (by simp [Value.oneCell']) (fun j u hu => by
    rw [Addr.add_lit, Nat.zero_add, Lib.cell_of_heap hnew, ← hu]
    simp)
  have hbwn : Below w2.heap.size w2 WX := by rw [← hWX]; exact below_new _ _
  obtain ⟨g0, g1, g2, g3⟩ := (HBX2.out.below hbwn).one
  obtain ⟨h0, h1, h2, h3⟩ := (HBX2.out.below hbwn).two
  have hbw3 : Below w2.heap.size w2 W3 := hbwx.trans (hb3.mono hbwx.size)
  have hbx3 := HBX2.out.below hbw3
  have hst0 : Below w.heap.size w W3 := hbx3.1
  obtain ⟨Ak, ck2, rfl, hterm⟩ := own_term (W := W3) (ks := ks ++ [.mk o' m' d' ls]) (S := fun _ => True) (o := 7) (m := 0) (by unfold I64; omega) (by unfold I64; omega) hown (Quads.snoc (TmC.mono (fun _ _ => trivial) _ _ _ _ _ (TmC.below hst0 _ _ _ _ _ HE.out)) ((Quads.stays (stays_below hst0 _) HQ.out).mono (fun _ _ => trivial))) (by rw [List.length_append, HLL.out]; rfl) (fun _ => True) (fun _ _ => trivial) (fun _ _ _ => trivial)
  have hnorm := norm_any (.mk 7 0 [] (ks ++ [.mk o' m' d' ls])) (pow_sz HSZ.out) (pow_fit HRT.out HRX.out) _ _ W3 ⟨_, _, _, _, rfl, hterm⟩
  rw [show normF (.mk 7 0 [] (ks ++ [.mk o' m' d' ls])) = pow0 (.mk 7 m d ks) (.mk o' m' d' ls) from norm_pow HRT.out HRX.out] at hnorm
  have HNO := Lib.hid hnorm
  have HBX3 := Lib.hid hbx3
  have hstep : w2.alloc (.cells #[.int .i64 oo', .int .i64 mm', .slice A' la' ca', .slice K' lk' ck'] 43) = WX := hWX
  clear hnorm hterm hst0 hbx3 hbw3 hb3 hown hnew hbwx hWX hbwn
  go_wp2_with fail
  go_region_law (refine step_run rfl (.tmp 30) (.tmp 32) 22 rfl _ _ _ (by simp [Act.eval, Act.put]) (by simp [Act.eval, Act.put]) hrun ?_)
  all_goals
    clear hstep hrun a0 a1 a2 a3 b0 b1 b2 b3 g0 g1 g2 g3 h0 h1 h2 h3
    go_wp2_with fail
    refine HNO.out.mono ?_
    rintro e w6 ⟨v6, rfl, ⟨n0, n1, n2, n3, rfl, hk6⟩, hb6⟩
    obtain ⟨o6, m6, A6, la6, ca6, K6, lk6, ck6, rfl, rfl, rfl, rfl⟩ := hk6.shape
    have hbx6 := HBX3.out.below hb6
    have hW7 : ∃ y, w6.alloc (.cells #[.int .i64 o6, .int .i64 m6, .slice A6 la6 ca6, .slice K6 lk6 ck6] 43) = y := ⟨_, rfl⟩
    obtain ⟨w7, hw7⟩ := hW7
    have hb7 : Below w6.heap.size w6 w7 := by rw [← hw7]; exact below_new _ _
    have hn7 : w7.heap[w6.heap.size]? = some (.cells #[.int .i64 o6, .int .i64 m6, .slice A6 la6 ca6, .slice K6 lk6 ck6] 43) := by rw [← hw7]; exact heap_new_ _ _
    have hz7 : w6.heap.size < w7.heap.size := by rw [← hw7]; simp
    have hbx7 := hbx6.below hb7
    have hk7 := TmC.below hb7 _ _ _ _ _ hk6
    have hr7 := right_any (pow0 (.mk 7 m d ks) (.mk o' m' d' ls)) _ (.agg #[.int .i64 o6, .int .i64 m6, .slice A6 la6 ca6, .slice K6 lk6 ck6]) w7 ⟨_, _, _, _, rfl, hk7⟩
    have p0 : w7.cell? ⟨w6.heap.size, 0, none⟩ = some (.int .i64 o6) := by rw [Lib.cell_of_heap hn7]; rfl
    have p1 : w7.cell? ⟨w6.heap.size, 1, none⟩ = some (.int .i64 m6) := by rw [Lib.cell_of_heap hn7]; rfl
    have p2 : w7.cell? ⟨w6.heap.size, 2, none⟩ = some (.slice A6 la6 ca6) := by rw [Lib.cell_of_heap hn7]; rfl
    have p3 : w7.cell? ⟨w6.heap.size, 3, none⟩ = some (.slice K6 lk6 ck6) := by rw [Lib.cell_of_heap hn7]; rfl
    have hz3 := HBX3.out.2.2.2.2
    have hz36 := hb6.size
    have hy7 : TmC (fun g => w.heap.size ≤ g ∧ g ≠ w.heap.size + 1 + 1) w7 (pow0 (.mk 7 m d ks) (.mk o' m' d' ls)) (.int .i64 o6) (.int .i64 m6) (.slice A6 la6 ca6) (.slice K6 lk6 ck6) := TmC.mono (fun g hg => by have hg : W3.heap.size ≤ g := hg; constructor <;> omega) _ _ _ _ _ hk7
    obtain ⟨q, hq⟩ : ∃ y, rightF (pow0 (.mk 7 m d ks) (.mk o' m' d' ls)) 0 = y := ⟨_, rfl⟩
    rw [hq] at hr7
    have HR7 := Lib.hid hr7
    have HBX7 := Lib.hid hbx7
    have HY7 := Lib.hid hy7
    have HN7 := Lib.hid hn7
    have HQQ := Lib.hid hq
    have HZ7 := Lib.hid hz7
    clear hr7 hk7 hbx7 hbx6 hb7 hn7 hb6 hk6 HNO HBX3 hz3 hz36 hy7 hq HC HE HQ HCC HRT HRX HCL HLL HSZ HBX2 hz7
    go_wp2_with fail
    clear hw7
    refine HR7.out.mono ?_
    rintro e w8 ⟨rfl, hb8⟩
    have hbx8 := HBX7.out.below hb8
    have hn8 := (hb8.block _ HZ7.out).trans HN7.out
    have hy8 := TmC.below hb8 _ _ _ _ _ HY7.out
    obtain ⟨z0, z1, z2, z3, f0, f1, f2, f3⟩ := hbx8.res
    by_cases hqq : q = true
    · subst hqq
      have eR : some (pow0 (.mk 7 m d ks) (.mk o' m' d' ls)) = R := by rw [← HR.out]; exact (if_pos HQQ.out).symm
      subst eR
      obtain ⟨r0, r1, r2, r3, hB, hT⟩ := res_end (w := w) (b := w.heap.size + 1 + 1) (S := fun g => w.heap.size ≤ g ∧ g ≠ w.heap.size + 1 + 1) (by omega) hbx8.1 hbx8.2.2.2.1 (fun g hg => hg) hy8
      have HE := Lib.hid (And.intro hB hT)
      have p0 : w8.cell? ⟨w6.heap.size, 0, none⟩ = some (.int .i64 o6) := by rw [Lib.cell_of_heap hn8]; rfl
      have p1 : w8.cell? ⟨w6.heap.size, 1, none⟩ = some (.int .i64 m6) := by rw [Lib.cell_of_heap hn8]; rfl
      have p2 : w8.cell? ⟨w6.heap.size, 2, none⟩ = some (.slice A6 la6 ca6) := by rw [Lib.cell_of_heap hn8]; rfl
      have p3 : w8.cell? ⟨w6.heap.size, 3, none⟩ = some (.slice K6 lk6 ck6) := by rw [Lib.cell_of_heap hn8]; rfl
      clear hB hT hbx8 hn8 hy8 hb8 HR7 HBX7 HN7 HY7 HQQ HR
      go_wp2_with fail
      refine bodyPost_ret (v := .tuple #[.agg #[.int .i64 o6, .int .i64 m6, .slice A6 la6 ca6, .slice K6 lk6 ck6], .bool true]) ?_ rfl ⟨_, rfl, HE.out.2, HE.out.1⟩
      simp [results, Tryz.results44, go_sem, r0, r1, r2, r3]
    · have hqf : q = false := by simpa using hqq
      subst hqf
      have eR : none = R := by rw [← HR.out]; exact (if_neg (by rw [HQQ.out]; simp)).symm
      subst eR
      obtain ⟨r0, r1, r2, r3, hB, hT⟩ := res_end (w := w) (b := w.heap.size + 1 + 1) (S := fun g => w.heap.size ≤ g ∧ g ≠ w.heap.size + 1 + 1) (by omega) hbx8.1 hbx8.2.2.2.1 (fun g hg => hg) (nil_tm _ _)
      have HE := Lib.hid (And.intro hB hT)
      clear hB hT hbx8 hn8 hy8 hb8 HR7 HBX7 HN7 HY7 HQQ HR hqq
      go_wp2_with fail
      refine bodyPost_ret (v := .tuple #[.agg #[.int .i64 0, .int .i64 0, .slice none 0 0, .slice none 0 0], .bool false]) ?_ rfl ⟨_, rfl, HE.out.2, HE.out.1⟩
      simp [results, Tryz.results44, go_sem, r0, r1, r2, r3]
/-- Pow's contract. -/
theorem pow_any (t x : Tm) (B C : Nat → Prop) (v u : Value) (w : World) (hv : TmV B w t v) (hu : TmV C w x u) (hsz : szT t + szT x ≤ 100000) : Calls Tryz.prog 44 #[v, u] w (PowPost w (powF t x)) := by
  by_cases h7 : t.op = 7
  · by_cases hr : rightF t 0 = true
    · by_cases hx : rightF x 0 = true
      · have h := pow_yes t x B C v u w hv hu h7 hr hx hsz
        unfold powF
        rw [if_pos ⟨hr, hx, h7⟩]
        exact h
      · have h := pow_no3 t x B C v u w hv hu h7 hr (by simpa using hx)
        unfold powF
        rw [if_neg (fun e => hx e.2.1)]
        exact h
    · have h := pow_no2 t x B C v u w hv hu h7 (by simpa using hr)
      unfold powF
      rw [if_neg (fun e => hr e.1)]
      exact h
  · have h := pow_no1 t x B C v u w hv hu h7
    unfold powF
    rw [if_neg (fun e => h7 e.2.2)]
    exact h
end Go.Proofs.YtlhogjigdmpokaaGreatDoor.tmc
