/- The document's put: a term into others that are in order. The document's Same and Pow. -/
import Derived.Test.YtlhogjigdmpokaaGreatDoorTg
import Derived.Deep.LoopGhost
namespace Go.Proofs.YtlhogjigdmpokaaGreatDoor.tmc
open Go.RowKit Go.Proofs.YtlhogjigdmpokaaGreatDoor.tlvc
set_option linter.unusedVariables false
theorem run_app_nil4 {P : Program} (w : World) (base : Nat) (t ty e : TypeId) (i : TypeInfo) (ht : P.underlying t = some (.slice e)) (hi : P.info? e = some i)
    (v : Value) (n : Nat) (xs : List Value) (hown : w.ownsRow base e 4 v n xs) (c : Nat) : (Builtin.append_ #[t, t] ty #[v, .slice none 0 c]).run P w = .ok v w := by
  rcases hown.2 with ⟨rfl, rfl⟩ | ⟨g, cap, cur, rfl, _, _, hnc, _⟩
  · simp [Builtin.append_, run_underlying ht, sizeOf, typeInfo, hi, Builtin.lenOf, Builtin.firstCells]
  · simp [Builtin.append_, run_underlying ht, sizeOf, typeInfo, hi, Builtin.lenOf, Builtin.firstCells, hnc, storeCells]
/-- append of terms' cells, from whatever source, to a row of the call's own. -/
theorem app_src (W : World) (base : Nat) (v : Value) (n : Nat) (cs : List Value) (hown : W.ownsRow base 43 4 v n cs) (S : Option Addr) (m c : Nat) (news : List Value) (hm : news.length = m * 4) (h1 : ∀ u ∈ news, u.oneCell' = true)
    (hS : 0 < m → ∃ g off, S = some ⟨g, off, none⟩ ∧ ∀ j u, news[j]? = some u → W.cell? ⟨g, off + j, none⟩ = some u) (hn : n + m ≤ 1000000) (hbase : base ≤ W.heap.size) :
    ∃ A' c' w', (Builtin.append_ #[22, 22] 22 #[v, .slice S m c]).run Tryz.prog W = .ok (.slice A' (n + m) c') w' ∧ w'.ownsRow base 43 4 (.slice A' (n + m) c') (n + m) (cs ++ news) ∧ Below base W w' := by
  rcases S with _ | a
  · have h0 : m = 0 := by
      rcases Nat.eq_zero_or_pos m with h0 | h0
      · exact h0
      · obtain ⟨_, _, e, _⟩ := hS h0; cases e
    subst h0
    have hc : news = [] := List.eq_nil_of_length_eq_zero (by omega)
    subst hc
    obtain ⟨i0, hi, hz0, hz1, hz2⟩ := info_parts Tryz.infoTerm
    obtain ⟨A', c', rfl, _⟩ := own4_shape hown
    exact ⟨A', c', W, run_app_nil4 W base 22 22 43 i0 Tryz.underlying22 hi _ n cs hown c, by rw [List.append_nil, Nat.add_zero]; exact hown, Below.refl _ _⟩
  · obtain ⟨v', w', hr, ho, hg, _⟩ := app_terms W base v n cs hown a m c news hm h1 (fun j u hu => by
      have hj := (List.getElem?_eq_some_iff.1 hu).1
      obtain ⟨g, off, e, hc⟩ := hS (by omega)
      cases e
      rw [Addr.add_lit]
      exact hc j u hu) hn hbase
    obtain ⟨A', c', rfl, _⟩ := own4_shape ho
    exact ⟨A', c', w', hr, ho, (Below.refl _ _).grown hg hbase fun j hj => (hown.lt j hj).1⟩
def sliceAddr (A : Option Addr) (ca p : Nat) : Option Addr := match A with | none => none | some a => if ca = p then some a else some (a.add (p * 4))
theorem slice_at {ca p : Nat} (h : p < ca) (g off : Nat) : sliceAddr (some ⟨g, off, none⟩) ca p = some ⟨g, off + p * 4, none⟩ := by
  unfold sliceAddr
  simp only
  rw [if_neg (by omega), Addr.add_lit]
def PutPost (S : Nat → Prop) (w : World) (ps : List Tm) (e : Ending) (w' : World) : Prop := ∃ A c cs', e = .returned (.slice A ps.length c) ∧ w'.ownsRow w.heap.size 43 4 (.slice A ps.length c) ps.length cs' ∧ Quads S w' ps cs' ∧ Below w.heap.size w w'
theorem Quads.take_ {S : Nat → Prop} {w : World} : ∀ {ks : List Tm} {cs : List Value} (p : Nat), Quads S w ks cs → Quads S w (ks.take p) (cs.take (p * 4)) ∧ Quads S w (ks.drop p) (cs.drop (p * 4))
  | [], cs, p, h => by
    have h : cs = [] := h
    subst h
    simp [Quads]
  | k :: ks, cs, 0, h => by simpa [Quads] using h
  | k :: ks, _, p + 1, ⟨c0, c1, c2, c3, r, e, hk, hr⟩ => by
    obtain ⟨h1, h2⟩ := Quads.take_ p hr
    subst e
    rw [show (p + 1) * 4 = p * 4 + 1 + 1 + 1 + 1 by omega]
    exact ⟨⟨c0, c1, c2, c3, r.take (p * 4), by simp, hk, h1⟩, by simpa using h2⟩
end Go.Proofs.YtlhogjigdmpokaaGreatDoor.tmc
namespace Go.Proofs.YtlhogjigdmpokaaGreatDoor.tmc
open Go.RowKit Go.Proofs.YtlhogjigdmpokaaGreatDoor.tlvc
set_option linter.unusedVariables false
theorem rorder_same (n : Tm) (C1 C2 : Nat → Prop) (v u : Value) (w : World) (h : TmV C1 w n v) (k : TmV C2 w n u) : Calls Tryz.prog 94 #[v, u] w fun e w' => e = .returned (.int .i64 0) ∧ Below w.heap.size w w' := by
  have := rorder_any n n C1 C2 v u w h k
  rwa [ordT_refl] at this
set_option maxRecDepth 100000 in
theorem same_self (n : Tm) (C1 C2 : Nat → Prop) (v u : Value) (w : World) (h : TmV C1 w n v) (k : TmV C2 w n u) : Calls Tryz.prog 74 #[v, u] w fun e w' => e = .returned (.bool true) ∧ Below w.heap.size w w' := by
  obtain ⟨c0, c1, c2, c3, rfl, hc⟩ := h
  obtain ⟨e0, e1, e2, e3, rfl, he⟩ := k
  obtain ⟨oo, mm, A, la, ca, K, lk, ck, rfl, rfl, rfl, rfl⟩ := hc.shape
  obtain ⟨oo', mm', A', la', ca', K', lk', ck', rfl, rfl, rfl, rfl⟩ := he.shape
  obtain ⟨W0, hW0⟩ : ∃ y, (w.alloc (.cells #[.int .i64 oo, .int .i64 mm, .slice A la ca, .slice K lk ck] 43)).alloc (.cells #[.int .i64 oo', .int .i64 mm', .slice A' la' ca', .slice K' lk' ck'] 43) = y := ⟨_, rfl⟩
  have hb0 : Below w.heap.size w W0 := by rw [← hW0]; exact (below_new _ _).alloc (by simp) _
  have ho := rorder_same n C1 C2 (.agg #[.int .i64 oo, .int .i64 mm, .slice A la ca, .slice K lk ck]) (.agg #[.int .i64 oo', .int .i64 mm', .slice A' la' ca', .slice K' lk' ck']) W0 ⟨_, _, _, _, rfl, TmC.below hb0 _ _ _ _ _ hc⟩ ⟨_, _, _, _, rfl, TmC.below hb0 _ _ _ _ _ he⟩
  have HO := Lib.hid ho
  have HB := Lib.hid hb0
  have HW := Lib.hid hW0
  clear ho hb0 hc he hW0
  go_enter Tryz.func74, Tryz.ntmps74
  go_wp2_with fail
  rw [HW.out]
  refine HO.out.mono ?_
  rintro e w2 ⟨rfl, hb2⟩
  have hend := HB.out.trans (hb2.mono HB.out.size)
  clear HO HB hb2
  go_wp2
  go_ret
  exact ⟨rfl, hend⟩
theorem tmsb_of {B : Nat → Prop} {w : World} {o m : Int} {d : List Int} {ks : List Tm} {c0 c1 c2 : Value} {K : Option Addr} {lk ck : Nat} (h : TmC B w (.mk o m d ks) c0 c1 c2 (.slice K lk ck)) (hl : ks.length = lk) : TmsB B w K ks := by
  unfold TmC at h
  obtain ⟨_, _, _, _, _, K', ck', e, _, _, h3⟩ := h
  cases e
  exact h3
def RPowPost (w : World) (r : Option Tm) (e : Ending) (w' : World) : Prop := ∃ v', e = .returned (.tuple #[v', .bool r.isSome]) ∧ TmV (fun _ => True) w' (r.getD (.mk 0 0 [] [])) v' ∧ Below w.heap.size w w'
theorem res_end2 {w W : World} {b : Nat} {x0 x1 x2 x3 y0 y1 y2 y3 : Value} {T : TypeId} {fr : Nat × Nat} {n : Tm} {S : Nat → Prop} (hb : w.heap.size ≤ b) (hB : Below w.heap.size w W) (hres : W.heap[b]? = some (.cells #[x0, x1, x2, x3] T fr)) (hS : ∀ g, S g → g ≠ b) (h : TmC S W n y0 y1 y2 y3) :
    ((((W.setCell ⟨b, 0, none⟩ y0).setCell ⟨b, 1, none⟩ y1).setCell ⟨b, 2, none⟩ y2).setCell ⟨b, 3, none⟩ y3).cell? ⟨b, 0, none⟩ = some y0 ∧ ((((W.setCell ⟨b, 0, none⟩ y0).setCell ⟨b, 1, none⟩ y1).setCell ⟨b, 2, none⟩ y2).setCell ⟨b, 3, none⟩ y3).cell? ⟨b, 1, none⟩ = some y1 ∧ ((((W.setCell ⟨b, 0, none⟩ y0).setCell ⟨b, 1, none⟩ y1).setCell ⟨b, 2, none⟩ y2).setCell ⟨b, 3, none⟩ y3).cell? ⟨b, 2, none⟩ = some y2 ∧ ((((W.setCell ⟨b, 0, none⟩ y0).setCell ⟨b, 1, none⟩ y1).setCell ⟨b, 2, none⟩ y2).setCell ⟨b, 3, none⟩ y3).cell? ⟨b, 3, none⟩ = some y3 ∧
      Below w.heap.size w ((((W.setCell ⟨b, 0, none⟩ y0).setCell ⟨b, 1, none⟩ y1).setCell ⟨b, 2, none⟩ y2).setCell ⟨b, 3, none⟩ y3) ∧ TmV S ((((W.setCell ⟨b, 0, none⟩ y0).setCell ⟨b, 1, none⟩ y1).setCell ⟨b, 2, none⟩ y2).setCell ⟨b, 3, none⟩ y3) n (.agg #[y0, y1, y2, y3]) := by
  have hbox := set4_box hres y0 y1 y2 y3
  refine ⟨(Lib.cell_of_heap (w := set4 W b 0 y0 y1 y2 y3) hbox _).trans rfl, (Lib.cell_of_heap (w := set4 W b 0 y0 y1 y2 y3) hbox _).trans rfl, (Lib.cell_of_heap (w := set4 W b 0 y0 y1 y2 y3) hbox _).trans rfl, (Lib.cell_of_heap (w := set4 W b 0 y0 y1 y2 y3) hbox _).trans rfl, hB.trans (set4_below W _ b 0 y0 y1 y2 y3 hb), y0, y1, y2, y3, rfl, ?_⟩
  have hst : Stays S W (set4 W b 0 y0 y1 y2 y3) := ⟨by rw [set4_size]; exact Nat.le_refl _, fun p hp _ => cell_same (set4_other _ _ _ _ _ _ _ _ (hS _ hp))⟩
  exact TmC.stays hst _ _ _ _ _ h
end Go.Proofs.YtlhogjigdmpokaaGreatDoor.tmc
