/- How an argument of any plain shape is opened. Nothing here names the program. -/
import Derived.Test.YtfmdmahlljbbmaaGreatDoorDt
import Derived.Deep.Slices
import Derived.Deep.Fields
import Derived.ChangeArms
import Derived.SizedLaws
namespace Go.Proofs.YtfmdmahlljbbmaaGreatDoor.dtc
open Go.ChangeShapes Go.WideShapes Go.ChangeAt Go.RowKit Go.Proofs.YtfmdmahlljbbmaaGreatDoor.tlvc Go.Proofs.YtfmdmahlljbbmaaGreatDoor.tmc
set_option linter.unusedVariables false
section
variable {H : Type} {enc : TypeId × Value → H} {P : Program} {W : World} {held : Bool}
mutual
theorem sh_of : ∀ (s : Sh) (T : TypeId), Fits P s T → ∀ (fuel : Nat) (cs : List Value) (x : DataW H × List MemPlace), DataW.trod enc P W 0 (fun _ => true) held fuel T cs = some x →
    cs.length = s.sz ∧ ∃ d, IsSh s d ∧ Lies (fun _ => True) W d cs ∧ (AllFit (x.1.weights P T) → fitDt d)
  | .int k, T, hF, fuel, cs, x, h => by
    unfold Fits at hF
    obtain ⟨n, rfl, _, hw⟩ := DataW.trod_int hF.1 h
    refine ⟨rfl, .int k n, ?_, ?_, fun _ => ?_⟩
    · unfold IsSh; exact ⟨n, rfl⟩
    · unfold Lies; exact ⟨rfl, hw⟩
    · unfold fitDt; trivial
  | .bool, T, hF, fuel, cs, x, h => by
    unfold Fits at hF
    obtain ⟨b, rfl, _⟩ := DataW.trod_bool hF.1 h
    refine ⟨rfl, .bool b, ?_, ?_, fun _ => ?_⟩
    · unfold IsSh; exact ⟨b, rfl⟩
    · unfold Lies; rfl
    · unfold fitDt; trivial
  | .str, T, hF, fuel, cs, x, h => by
    unfold Fits at hF
    obtain ⟨s, rfl, hx, hm⟩ := DataW.trod_string hF.1 h
    refine ⟨rfl, .str s, ?_, ?_, fun hw => ?_⟩
    · unfold IsSh; exact ⟨s, rfl⟩
    · unfold Lies; exact ⟨rfl, hm⟩
    · unfold fitDt
      rw [hx] at hw
      unfold DataW.weights at hw
      unfold AllFit at hw
      simp only [List.all_cons, List.all_nil, Bool.and_true] at hw
      have := of_decide_eq_true hw
      unfold reachBytes at this
      have e : s.data.toList.length = s.size := Array.length_toList
      omega
  | .bys, T, hF, fuel, cs, x, h => by
    unfold Fits at hF
    obtain ⟨U, hT, hU, hc, hb, _⟩ := hF
    have hcs : ∃ A la ca, cs = [.slice A la ca] ∧ (AllFit (x.1.weights P T) → la ≤ 140737488351232) := by
      rcases DataW.trod_slice hT h with ⟨e, _⟩ | ⟨a, len, cap, elems, rest, _, _, e, hy, _, _, _, hlen, _⟩
      · exact ⟨none, 0, 0, e, fun _ => by omega⟩
      · refine ⟨some a, len, cap, e, fun hw => ?_⟩
        rw [hy] at hw
        unfold DataW.weights at hw
        rw [hT] at hw
        have hw : AllFit (((elems.map (·.1)).length + (rest.map (·.1)).length) * P.bytesOf U :: (DataW.weightsAll P U (elems.map (·.1)) ++ DataW.weightsAll P U (rest.map (·.1)))) := hw
        have hw2 := AllFit.left (a := [_]) hw
        unfold AllFit at hw2
        rw [hb, List.length_map, List.length_map] at hw2
        simp only [List.all_cons, List.all_nil, Bool.and_true] at hw2
        have := of_decide_eq_true hw2
        unfold reachBytes at this
        omega
    obtain ⟨A, la, ca, rfl, hfa⟩ := hcs
    obtain ⟨b, hby, hb1, hb2, _⟩ := open_bys hT hU hc ⟨fuel, h⟩
    refine ⟨rfl, .bys b, ?_, ?_, fun hw => ?_⟩
    · unfold IsSh; exact ⟨b, rfl⟩
    · unfold Lies; exact ⟨A, la, ca, rfl, hb1, hb2, hby, fun _ _ _ _ _ => trivial⟩
    · unfold fitDt; have := hfa hw; have := hby.1; omega
  | .agg l, T, hF, fuel, cs, x, h => by
    unfold Fits at hF
    obtain ⟨fs, hT, hc, hf⟩ := hF
    obtain ⟨xs, m, rfl, hx, hl, hlen, hg⟩ := DataW.trod_struct hT h
    rw [hc] at hl
    obtain ⟨ds, h1, h2, h3⟩ := shs_of l 0 fs.toList hf cs xs m (fun i f hi => hg i f (by simpa using hi)) (by simpa using hlen) (by omega)
    refine ⟨by unfold Sh.sz; exact hl, .agg ds, ?_, ?_, fun hw => ?_⟩
    · unfold IsSh; exact ⟨ds, rfl, h1⟩
    · unfold Lies; simpa using h2
    · unfold fitDt
      refine h3 ?_
      rw [hx] at hw
      unfold DataW.weights at hw
      rw [hT] at hw
      exact hw
  | .row s, T, hF, fuel, cs, x, h => by
    unfold Fits at hF
    obtain ⟨U, hT, hs, _, hz⟩ := hF
    have hsz := hs.cells
    rcases DataW.trod_slice hT h with ⟨rfl, rfl⟩ | ⟨a, len, cap, elems, rest, m, rfl, rfl, rfl, _, hl, hm, hlen, hel, hsp, _⟩
    · refine ⟨rfl, .row s.sz [], ?_, ?_, fun _ => ?_⟩
      · unfold IsSh; exact ⟨[], rfl, fun x hx => by simp at hx⟩
      · unfold Lies; exact ⟨none, 0, rfl, Nat.le_refl _, Nat.zero_le _, fun h => absurd h (by simp)⟩
      · unfold fitDt fitDts; trivial
    · obtain ⟨b, off, spot⟩ := a
      have each : ∀ i, i < len → ∃ d : Dt, ∃ c : List Value, W.cells? 0 ((⟨b, off, spot⟩ : Addr).add (i * s.sz)) s.sz = some c ∧ c.length = s.sz ∧ IsSh s d ∧ Lies (fun _ => True) W d c ∧ (∀ e, elems[i]? = some e → AllFit (e.1.weights P U) → fitDt d) := by
        intro i hi
        have hk := hel i hi
        rw [hsz, List.getElem?_eq_getElem (by omega)] at hk
        obtain ⟨cs', h1, h2⟩ := Option.bind_eq_some_iff.1 hk
        obtain ⟨h3, d, h4, h5, h6⟩ := sh_of s U hs m cs' _ h2
        exact ⟨d, cs', h1, h3, h4, h5, fun e he => by rw [List.getElem?_eq_getElem (by omega)] at he; cases he; exact h6⟩
      obtain ⟨f, hf⟩ := Go.Deep.choose_lt each
      refine ⟨rfl, .row s.sz ((List.range len).map f), ?_, ?_, fun hw => ?_⟩
      · unfold IsSh
        refine ⟨_, rfl, fun d hd => ?_⟩
        obtain ⟨i, hi, rfl⟩ := List.mem_map.1 hd
        obtain ⟨_, _, _, h4, _, _⟩ := hf i (List.mem_range.1 hi)
        exact h4
      · unfold Lies
        refine ⟨some ⟨b, off, spot⟩, cap, by simp, by simp; omega, hm, fun hn => ?_⟩
        have hn : 0 < len := by simpa using hn
        obtain ⟨c, hc, hcl, _⟩ := hf 0 hn
        have hcell := (World.cells?_some hc).2.2 0 (by omega)
        rw [Nat.zero_mul, List.getElem?_eq_getElem (by omega)] at hcell
        have hspot : spot = none := by simpa [Addr.add] using World.cell?_spot hcell
        subst hspot
        have hlt : b < W.heap.size := by
          have := World.block_lt_of_cell? W _ hcell
          simpa [Addr.add] using this
        refine ⟨b, off, rfl, hlt, trivial, LiesRow.of fun i hi => ?_⟩
        have hi : i < len := by simpa using hi
        obtain ⟨c, hc, hcl, h4, h5, _⟩ := hf i hi
        refine ⟨c, hcl, fun j u hu => ?_, by simpa using h5⟩
        have hj := (List.getElem?_eq_some_iff.1 hu).1
        have := (World.cells?_some hc).2.2 j (by omega)
        rw [Addr.add_lit, Addr.add_lit] at this
        rw [this, hu]
      · unfold fitDt
        unfold DataW.weights at hw
        rw [hT] at hw
        have hw : AllFit (((elems.map (·.1)).length + (rest.map (·.1)).length) * P.bytesOf U :: (DataW.weightsAll P U (elems.map (·.1)) ++ DataW.weightsAll P U (rest.map (·.1)))) := hw
        have hw2 : AllFit (DataW.weightsAll P U (elems.map (·.1))) := (AllFit.right (a := [_]) hw).left
        refine fitDts_all.2 fun d hd => ?_
        obtain ⟨i, hi, rfl⟩ := List.mem_map.1 hd
        have hi : i < len := List.mem_range.1 hi
        obtain ⟨_, _, _, _, _, hfit⟩ := hf i hi
        have hel : elems[i]? = some (elems[i]'(by omega)) := List.getElem?_eq_getElem (by omega)
        exact hfit _ hel (allFit_mem hw2 (List.mem_map.2 ⟨_, List.getElem_mem _, rfl⟩))
  | .tm, T, hF, fuel, cs, x, h => by
    unfold Fits at hF
    obtain ⟨X⟩ := hF
    obtain ⟨n, c0, c1, c2, c3, rfl, hn, hw⟩ := tm_of X fuel _ _ h
    refine ⟨rfl, .tm n, ?_, ?_, fun hh => ?_⟩
    · unfold IsSh; exact ⟨n, rfl⟩
    · unfold Lies; exact ⟨_, _, _, _, rfl, hn⟩
    · unfold fitDt; exact hw hh
theorem shs_of : ∀ (l : List Sh) (off : Nat) (fs : List Field), FitsAll P off l fs → ∀ (cs : List Value) (xs : List (DataW H × List MemPlace)) (m : Nat), (∀ (i : Nat) (f : Field), fs[i]? = some f → DataW.trod enc P W 0 (fun _ => true) held m f.type ((cs.drop f.offset).take (P.cellsOf f.type)) = xs[i]?) → xs.length = fs.length → cs.length = off + szs l →
    ∃ ds, IsShs l ds ∧ LiesAll (fun _ => True) W ds (cs.drop off) ∧ (AllFit (DataW.weightsEach P (fs.map (·.type)) (xs.map (·.1))) → fitDts ds)
  | [], off, [], hF, cs, xs, m, hg, hx, hl => by
    refine ⟨[], ?_, ?_, fun _ => ?_⟩
    · unfold IsShs; trivial
    · unfold LiesAll; unfold szs at hl; exact List.drop_eq_nil_of_le (by omega)
    · unfold fitDts; trivial
  | [], off, f :: fs, hF, _, _, _, _, _, _ => by unfold FitsAll at hF; exact hF.elim
  | s :: ss, off, [], hF, _, _, _, _, _, _ => by unfold FitsAll at hF; exact hF.elim
  | s :: ss, off, f :: fs, hF, cs, xs, m, hg, hx, hl => by
    unfold FitsAll at hF
    obtain ⟨ho, hs, hr⟩ := hF
    unfold szs at hl
    match xs, hx with
    | y :: ys, hx =>
      have h0 := hg 0 f rfl
      rw [ho, hs.cells] at h0
      obtain ⟨hpl, d, h1, h2, h3⟩ := sh_of s f.type hs m _ y h0
      obtain ⟨ds, k1, k2, k3⟩ := shs_of ss (off + s.sz) fs hr cs ys m (fun i f' hi => by have := hg (i + 1) f' (by simpa using hi); simpa using this) (by simpa using hx) (by omega)
      refine ⟨d :: ds, ?_, ?_, fun hw => ?_⟩
      · unfold IsShs; exact ⟨h1, k1⟩
      · unfold LiesAll
        refine ⟨(cs.drop off).take s.sz, cs.drop (off + s.sz), ?_, h2, k2⟩
        rw [← List.drop_drop, List.take_append_drop]
      · unfold fitDts
        have hw : AllFit (y.1.weights P f.type ++ DataW.weightsEach P (fs.map (·.type)) (ys.map (·.1))) := hw
        exact ⟨h3 hw.left, k3 hw.right⟩
end
/-- A list of structs among the arguments. -/
theorem open_row {s : Sh} {T : TypeId} (hF : Fits P (.row s) T) {A : Option Addr} {len cap : Nat} {d : DataW H} {p : List MemPlace} (h : DataW.Trod enc P W 0 (fun _ => true) held T (.slice A len cap) d p) :
    ∃ ds : List Dt, ds.length = len ∧ (∀ x ∈ ds, IsSh s x) ∧ (0 < len → ∃ g off, A = some ⟨g, off, none⟩ ∧ g < W.heap.size ∧ LiesRow (fun _ => True) W g s.sz off ds) ∧ len ≤ cap ∧ cap ≤ maxLen ∧ (AllFit (d.weights P T) → fitDts ds) := by
  obtain ⟨fuel, hf⟩ := h
  obtain ⟨_, x, h1, h2, h3⟩ := sh_of (.row s) T hF fuel _ _ hf
  unfold IsSh at h1
  obtain ⟨ds, rfl, hs⟩ := h1
  unfold Lies at h2
  obtain ⟨A', c', e, k1, k2, k3⟩ := h2
  have e : Value.slice A len cap = .slice A' ds.length c' := by
    have e' : [Value.slice A len cap] = [.slice A' ds.length c'] := e
    simpa using e'
  simp only [Value.slice.injEq] at e
  obtain ⟨rfl, rfl, rfl⟩ := e
  refine ⟨ds, rfl, hs, fun hn => ?_, k1, k2, fun hw => ?_⟩
  · obtain ⟨g, off, e, hg, _, hr⟩ := k3 hn
    exact ⟨g, off, e, hg, hr⟩
  · have := h3 hw
    unfold fitDt at this
    exact this
/-- A struct among the arguments. -/
theorem open_agg {l : List Sh} {T : TypeId} {fs : Array Field} (hT : P.underlying T = some (.struct fs)) (hF : Fits P (.agg l) T) {r : Reach} {b0 : Nat} {v : Value} {d : DataW H} {p : List MemPlace} (hv : Value.okWide P W r b0 T v) (h : DataW.Trod enc P W 0 (fun _ => true) held T v d p) :
    ∃ (cs : List Value) (ds : List Dt), v = .agg cs.toArray ∧ cs.length = szs l ∧ IsShs l ds ∧ LiesAll (fun _ => True) W ds cs ∧ (AllFit (d.weights P T) → fitDts ds) := by
  obtain ⟨cs, rfl, hsz⟩ := okWide_struct hT hv
  obtain ⟨fuel, hf⟩ := h
  obtain ⟨hl, x, h1, h2, h3⟩ := sh_of (.agg l) T hF fuel _ _ hf
  unfold IsSh at h1
  obtain ⟨ds, rfl, hs⟩ := h1
  unfold Lies at h2
  unfold Sh.sz at hl
  have e : (Value.agg cs).cells = cs := rfl
  rw [e] at hl h2
  exact ⟨cs.toList, ds, by simp, hl, hs, h2, fun hw => by have := h3 hw; unfold fitDt at this; exact this⟩
theorem open_sh {s : Sh} {T : TypeId} (hF : Fits P s T) {v : Value} {d : DataW H} {p : List MemPlace} (h : DataW.Trod enc P W 0 (fun _ => true) held T v d p) : ∃ x, IsSh s x ∧ Lies (fun _ => True) W x v.cells.toList ∧ (AllFit (d.weights P T) → fitDt x) := by
  obtain ⟨fuel, hf⟩ := h
  obtain ⟨_, x, h1, h2, h3⟩ := sh_of s T hF fuel _ _ hf
  exact ⟨x, h1, h2, h3⟩
end
end Go.Proofs.YtfmdmahlljbbmaaGreatDoor.dtc
