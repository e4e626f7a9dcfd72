/- The program's seqOf: the node of parts, one behind the other: of a name's parts, of nodes, of texts. -/
import Derived.Test.YthcancakkkjpaaaGreatDoorRd
namespace Go.Proofs.YthcancakkkjpaaaGreatDoor.nmc
open Go.RowKit Go.Proofs.YthcancakkkjpaaaGreatDoor.tlvc Go.Proofs.YthcancakkkjpaaaGreatDoor.tlvd Go.Proofs.YthcancakkkjpaaaGreatDoor.ndc Go.Proofs.YthcancakkkjpaaaGreatDoor.txc Go.Proofs.YthcancakkkjpaaaGreatDoor.txm Go.Proofs.YthcancakkkjpaaaGreatDoor.intc Go.Proofs.YthcancakkkjpaaaGreatDoor.intm
set_option linter.unusedVariables false
set_option linter.unusedSimpArgs false
/-- A node, or the error of names and nothing. -/
def NPost0 (S : Nat → Prop) (w : World) (r : Option Nd) (e : Ending) (w' : World) : Prop :=
  Below w.heap.size w w' ∧ match r with
    | none => e = .returned (.tuple #[.agg #[.int .u8 0, .slice none 0 0, .slice none 0 0], .int .i64 91])
    | some n => ∃ t A la ca K lk ck, e = .returned (.tuple #[.agg #[.int .u8 t, .slice A la ca, .slice K lk ck], .int .i64 0]) ∧ NdC S w' n (.int .u8 t) (.slice A la ca) (.slice K lk ck)
theorem NPost0.weak {S : Nat → Prop} {w : World} {r : Option Nd} {e : Ending} {w' : World} (h : NPost0 S w r e w') : NPost S w r e w' := by
  obtain ⟨hb, h⟩ := h
  refine ⟨hb, ?_⟩
  cases r with
  | none => exact ⟨_, _, _, _, _, _, _, _, h, (by decide : (91 : Int) ≠ 0)⟩
  | some n =>
    obtain ⟨t, A, la, ca, K, lk, ck, e, hn⟩ := h
    exact ⟨t, A, la, ca, K, lk, ck, 0, e, rfl, hn⟩
theorem NPost0.mono {S S' : Nat → Prop} {w : World} {r : Option Nd} {e : Ending} {w' : World} (hS : ∀ g, S g → S' g) (h : NPost0 S w r e w') : NPost0 S' w r e w' := by
  obtain ⟨hb, h⟩ := h
  refine ⟨hb, ?_⟩
  cases r with
  | none => exact h
  | some n =>
    obtain ⟨t, A, la, ca, K, lk, ck, e, hn⟩ := h
    exact ⟨t, A, la, ca, K, lk, ck, e, NdC.mono hS _ _ _ _ hn⟩
theorem Tryz.infN : Inf Tryz.prog 23 25 ndE.sz 56 := by
  obtain ⟨i0, hi, hz0, hz1, hz2⟩ := info_parts ndc.Tryz.infoNode
  exact ⟨Tryz.underlying23, i0, _, hi, hz0, hz1, hz2, rfl⟩
/-- A sequence on its way. -/
structure SInv (Q : Nat → Prop) (w : World) (kids : List Nd) (v : Value) (wx : World) : Prop where
  bel : Below w.heap.size w wx
  low : w.heap.size + 2 ≤ wx.heap.size
  res : wx.heap[w.heap.size]? = some (.cells #[.int .u8 0, .slice none 0 0, .slice none 0 0] 25)
  seq : wx.heap[w.heap.size + 1]? = some (.cells #[.int .u8 48, .slice none 0 0, v] 25)
  row : GRow ndE 25 (w.heap.size + 2) (fun g => Q g ∨ w.heap.size + 2 ≤ g) wx v kids
section
variable {Q : Nat → Prop} {w wx w' : World} {kids : List Nd} {v : Value}
theorem SInv.below (h : SInv Q w kids v wx) (hb : Below wx.heap.size wx w') : SInv Q w kids v w' :=
  ⟨below_then h.bel hb (Nat.le_refl _), Nat.le_trans h.low hb.size, (hb.block _ (by have := h.low; omega)).trans h.res, (hb.block _ (by have := h.low; omega)).trans h.seq, h.row.below (fun g hg => .inr hg) hb⟩
theorem SInv.start (hw : (w.alloc (.cells #[.int .u8 0, .slice none 0 0, .slice none 0 0] 25)).alloc (.cells #[.int .u8 48, .slice none 0 0, .slice none 0 0] 25) = wx) : SInv Q w [] (.slice none 0 0) wx := by
  subst hw
  refine ⟨(below_new _ _).alloc (by simp) _, by simp, ?_, heap_is (by simp), GRow.nil⟩
  rw [heap_old_ _ _ (by simp)]
  exact heap_new_ _ _
theorem SInv.push (hQ : ∀ g, Q g → g < w.heap.size) (h : SInv Q w kids v wx) (hb : Below wx.heap.size wx w') {n : Nd} {k0 k1 k2 : Value} (hn : NdC (fun g => Q g ∨ wx.heap.size ≤ g) w' n k0 k1 k2) {g1 : Nat} (hg1 : wx.heap.size ≤ g1) {T : TypeId} {fr : Nat × Nat} (hbox : w'.heap[g1]? = some (.cells #[k0, k1, k2] T fr)) (hl : kids.length ≤ 1000) :
    ∃ A c w2, (Builtin.append_ #[23, 23] 23 #[v, .slice (some ⟨g1, 0, none⟩) 1 1]).run Tryz.prog w' = .ok (.slice A (kids.length + 1) c) w2 ∧ (w2.heap[w.heap.size + 1]? = some (.cells #[.int .u8 48, .slice none 0 0, v] 25)) ∧ SInv Q w (kids ++ [n]) (.slice A (kids.length + 1) c) (w2.setCell ⟨w.heap.size + 1, 2, none⟩ (.slice A (kids.length + 1) c)) := by
  have h' := h.below hb
  have hg1l := (Array.getElem?_eq_some_iff.1 hbox).1
  have hlow := h.low
  have hlow' := h'.low
  have hown := h.row.lt
  have ne : ∀ g, wx.heap.size ≤ g → some g ≠ v.ownBlock := fun g hg e => by have := (hown g e.symm).2; omega
  have neQ : ∀ g, Q g → some g ≠ v.ownBlock := fun g hg e => by have := (hown g e.symm).1; have := hQ g hg; omega
  obtain ⟨v', w2, hr, hrow, hgr⟩ := h'.row.app (E := ndE) Tryz.infN (fun g hg => .inr hg) 23 (g := g1) (off := 0) (c := 1) (x := n) (news := [k0, k1, k2]) ⟨.inr (by omega), hg1l, ne g1 hg1⟩
    (fun j u hu => by
      rw [Nat.zero_add, Lib.cell_of_heap hbox]
      match j, hu with
      | 0, hu => exact hu
      | 1, hu => exact hu
      | 2, hu => exact hu
      | j + 3, hu => simp at hu)
    ⟨k0, k1, k2, rfl, NdC.mono (fun g hg => ⟨hg.1.imp id (fun h => by omega), hg.2, hg.1.elim (neQ g) (ne g)⟩) _ _ _ _ (NdC.bound _ _ _ _ hn)⟩ (by omega) (by unfold maxLen; omega) hlow'
  obtain ⟨A, c, rfl, hc1, hc2⟩ := hrow.shape
  rw [show (kids ++ [n]).length = kids.length + 1 by simp] at hr hrow
  have hz := hgr.size
  have nb : ∀ g, g < w.heap.size + 2 → some g ≠ v.ownBlock := fun g hg e => by have := (hown g e.symm).1; omega
  have k4 := fun g (hg : g < w'.heap.size) (hne : some g ≠ v.ownBlock) => hgr.block g hg hne
  have hs4 := (k4 (w.heap.size + 1) (by omega) (nb _ (by omega))).trans h'.seq
  have bel4 : Below w.heap.size w w2 := h'.bel.grown hgr (by omega) (fun j hj => by have := (hown j hj).1; omega)
  refine ⟨A, c, w2, hr, hs4, ⟨bel4.setCell (show w.heap.size ≤ (⟨w.heap.size + 1, 2, none⟩ : Addr).block from Nat.le_succ _) _, by rw [set_size]; omega, ?_, set_heap _ _ 2 _ _ _ _ hs4, ?_⟩⟩
  · rw [set_heap_other _ _ _ _ _ (by omega)]
    exact (k4 w.heap.size (by omega) (nb _ (by omega))).trans h'.res
  · refine hrow.keep (fun g hg => .inr hg) (by rw [set_size]; exact Nat.le_refl _) fun g hg hY => set_heap_other _ _ _ _ _ ?_
    rcases hY with hY | hY
    · have := hQ g hY; omega
    · omega
theorem SInv.done (hQ : ∀ g, Q g → g < w.heap.size) (h : SInv Q w kids v wx) : ∃ A c, v = .slice A kids.length c ∧ NdC (fun g => Q g ∨ w.heap.size + 2 ≤ g) wx (.mk 48 [] kids) (.int .u8 48) (.slice none 0 0) (.slice A kids.length c) := by
  obtain ⟨A, c, rfl, h1, h2, h3⟩ := h.row.lst (fun g hg => .inr hg)
  exact ⟨A, c, rfl, ndC_of (by omega) h1 h2 h3⟩
end
theorem seqF_step_none {α : Type} {F : α → Option Nd} {xs : List α} {i : Nat} {kids : List Nd} {R0 : Option (List Nd)} (hi : i < xs.length) (h : (seqF F (xs.drop i)).map (kids ++ ·) = R0) (hn : F xs[i] = none) : R0 = none := by
  rw [← h, List.drop_eq_getElem_cons hi]
  unfold seqF
  rw [hn]
  rfl
theorem seqF_step_some {α : Type} {F : α → Option Nd} {xs : List α} {i : Nat} {kids : List Nd} {R0 : Option (List Nd)} (hi : i < xs.length) (h : (seqF F (xs.drop i)).map (kids ++ ·) = R0) {n : Nd} (hn : F xs[i] = some n) : (seqF F (xs.drop (i + 1))).map ((kids ++ [n]) ++ ·) = R0 := by
  rw [← h, List.drop_eq_getElem_cons hi]
  conv => rhs; unfold seqF
  rw [hn]
  simp only []
  rw [Option.map_map]
  congr 1
  funext l
  simp
theorem seqF_end {α : Type} {F : α → Option Nd} {xs : List α} {i : Nat} {kids : List Nd} {R0 : Option (List Nd)} (hi : ¬ i < xs.length) (h : (seqF F (xs.drop i)).map (kids ++ ·) = R0) : R0 = some kids := by
  rw [← h, List.drop_eq_nil_of_le (by omega)]
  unfold seqF
  simp

set_option maxRecDepth 100000 in
set_option maxHeartbeats 8000000 in
theorem seqOf_attr (Q B : Nat → Prop) (F : At → Option Nd) (f : FuncId) (A : Option Addr) (len cap : Nat) (xs : List At) (w : World) (hQ : ∀ g, Q g → g < w.heap.size) (hl : xs.length = len) (hL : Lst atE B w A xs) (hc : len ≤ cap) (hm : cap ≤ maxLen) (hlen : len ≤ 1000)
    (hen : ∀ args w, (callFunc f args).run Tryz.prog w = .ok (.enter f args) w)
    (hf : ∀ (x : At), x ∈ xs → ∀ (W : World), Below w.heap.size w W → ∀ c0 c1 : Value, atE.hold B W x [c0, c1] → Calls Tryz.prog f #[.agg #[c0, c1]] W (NPost (fun g => Q g ∨ W.heap.size ≤ g) W (F x))) :
    Calls Tryz.prog 30 #[.slice A len cap, .func (.func f) #[] #[]] w (NPost0 (fun g => Q g ∨ w.heap.size ≤ g) w ((seqF F xs).map (.mk 48 []))) := by
  have h9 : cap ≤ 9223372036854775807 := by unfold maxLen at hm; omega
  obtain ⟨R0, hR0⟩ : ∃ x, seqF F xs = x := ⟨_, rfl⟩
  rw [hR0]
  have hR1 : (seqF F (xs.drop 0)).map ([] ++ ·) = R0 := by rw [List.drop_zero, hR0]; cases R0 <;> simp
  have HR := Lib.hid hR1
  have HL := Lib.hid (And.intro hl (And.intro hL hQ))
  have HF := Lib.hid hf
  have hst : ∀ wx, (w.alloc (.cells #[.int .u8 0, .slice none 0 0, .slice none 0 0] 25)).alloc (.cells #[.int .u8 48, .slice none 0 0, .slice none 0 0] 25) = wx → SInv Q w [] (.slice none 0 0) wx := fun wx h => SInv.start h
  have HST := Lib.hid hst
  clear hl hL hQ hf hR0 hR1 hst hm
  go_enter Tryz.func30, Tryz.ntmps30
  go_wp2_with fail
  go_loopg [14] (len + 1) (fun gk s14 wx => ∃ (i : Nat) (kids : List Nd) (Av : Option Addr) (cv : Nat), s14 = .int .i64 i ∧ i ≤ len ∧ len - i < gk ∧ Hid (kids.length = i ∧ (seqF F (xs.drop i)).map (kids ++ ·) = R0 ∧ SInv Q w kids (.slice Av i cv) wx))
  case atStart => exact ⟨0, [], none, 0, rfl, by omega, by omega, Lib.hid ⟨rfl, HR.out, HST.out _ rfl⟩⟩
  case round =>
    obtain ⟨i, kids, Av, cv, rfl, hi, hgk, HI⟩ := hrel
    clear HR HST
    by_cases hlt : i < len
    · have hltz : (i : Int) < (len : Int) := by omega
      obtain ⟨gk', rfl⟩ : ∃ g', gk = g' + 1 := ⟨gk - 1, by omega⟩
      have HN := Lib.hid (And.intro (show i + 1 ≤ len from hlt) (show len - (i + 1) < gk' by omega))
      have hix : i < xs.length := by rw [HL.out.1]; exact hlt
      have hbw := HI.out.2.2.bel
      have hLr : Lst atE B wr A xs := HL.out.2.1.below hbw
      obtain ⟨g, off, cs, rfl, hg, hcell, hold⟩ := hLr.at i hix
      obtain ⟨c0, c1, rfl, hat⟩ := hold
      obtain ⟨A0, l0, k0, rfl, rfl, hx1, hx2, hx3, hx4, hx5⟩ := hat
      have e0 := hcell 0 _ rfl
      have e1 := hcell 1 _ rfl
      rw [show atE.sz = 2 from rfl] at e0 e1
      rw [Nat.add_zero] at e0
      have hw1 : Below wr.heap.size wr (wr.alloc (.cells #[.slice A0 l0 k0, .string xs[i].text] 43)) := below_new _ _
      have hz1 := size_new wr (.cells #[.slice A0 l0 k0, .string xs[i].text] 43)
      have hold : atE.hold B (wr.alloc (.cells #[.slice A0 l0 k0, .string xs[i].text] 43)) xs[i] [.slice A0 l0 k0, .string xs[i].text] := atE.stays ⟨hw1.size, fun p _ hp => hw1.cell hp⟩ ⟨_, _, rfl, A0, l0, k0, rfl, rfl, hx1, hx2, hx3, hx4, hx5⟩
      obtain ⟨tx, htx⟩ : ∃ t, xs[i].text = t := ⟨_, rfl⟩
      rw [htx] at e1 hw1 hold hz1
      clear hx1 hx2 hx3 hx4 hx5
      have hcl := HF.out xs[i] (List.getElem_mem hix) (wr.alloc (.cells #[.slice A0 l0 k0, .string tx] 43)) (below_then hbw hw1 (Nat.le_refl _)) (.slice A0 l0 k0) (.string tx) hold
      obtain ⟨r, hr⟩ : ∃ x, F xs[i] = x := ⟨_, rfl⟩
      rw [hr] at hcl
      have HC := Lib.hid hcl
      have HX := Lib.hid hr
      clear hcl hr hold hcell hLr hbw hgk
      cases r with
      | none =>
        go_wp2_with fail
        refine HC.out.mono ?_
        rintro e w2 ⟨hb2, t, Ak, la, ca, Kk, lk, ck, er, rfl, her⟩
        have hne : (er == 0) = false := by simpa using her
        have hI2 := HI.out.2.2.below (below_then (below_new wr (.cells #[.slice A0 l0 k0, .string tx] 43)) hb2 (Nat.le_refl _))
        have p0 : (w2.alloc (.cells #[.int .u8 t, .slice Ak la ca, .slice Kk lk ck] 25)).heap[w.heap.size]? = some (.cells #[.int .u8 0, .slice none 0 0, .slice none 0 0] 25) := by
          rw [heap_old_ _ _ (by have := hI2.low; omega)]; exact hI2.res
        obtain ⟨r0, r1, r2, hB⟩ := res3 (y0 := .int .u8 0) (y1 := .slice none 0 0) (y2 := .slice none 0 0) (Nat.le_refl _) (below_then hI2.bel (below_new _ _) (Nat.le_refl _)) p0
        have f0 := Lib.frozen_of_heap p0 0
        have f1 := Lib.frozen_of_heap p0 1
        have f2 := Lib.frozen_of_heap p0 2
        have s0 := (Lib.cell_of_heap p0 0).trans rfl
        have s1 := (Lib.cell_of_heap p0 1).trans rfl
        have s2 := (Lib.cell_of_heap p0 2).trans rfl
        have HE := Lib.hid hB
        have hR := seqF_step_none hix HI.out.2.1 HX.out
        subst hR
        clear hI2 hB hb2 p0 HC
        go_wp2_with fail
        refine bodyPost_ret (v := .tuple #[.agg #[.int .u8 0, .slice none 0 0, .slice none 0 0], .int .i64 91]) ?_ rfl ⟨HE.out, rfl⟩
        simp [results, Tryz.results30, go_sem, r0, r1, r2]
      | some n =>
        go_wp2_with fail
        refine HC.out.mono ?_
        rintro e w2 ⟨hb2, t, Ak, la, ca, Kk, lk, ck, er, rfl, rfl, hn⟩
        have hbx2 := below_then (below_new wr (.cells #[.slice A0 l0 k0, .string tx] 43)) hb2 (Nat.le_refl _)
        have hb3 : Below w2.heap.size w2 ((w2.alloc (.cells #[.int .u8 t, .slice Ak la ca, .slice Kk lk ck] 25)).alloc (.cells #[.int .u8 t, .slice Ak la ca, .slice Kk lk ck] 25)) := (below_new _ _).alloc (by simp) _
        obtain ⟨A', c', w4, hrun, hs4, hI4⟩ := HI.out.2.2.push HL.out.2.2 (below_then hbx2 hb3 (Nat.le_refl _)) (NdC.below hb3 _ _ _ _ (NdC.mono (fun g hg => hg.imp id (fun h => by rw [hz1] at h; omega)) _ _ _ _ hn)) (g1 := w2.heap.size + 1) (by have := hbx2.size; omega) (heap_is (by simp)) (by rw [HI.out.1]; omega)
        rw [HI.out.1] at hrun hI4
        have hI2 := HI.out.2.2.below hbx2
        have d2 : (w2.alloc (.cells #[.int .u8 t, .slice Ak la ca, .slice Kk lk ck] 25)).cell? ⟨w.heap.size + 1, 2, none⟩ = some (.slice Av i cv) := by
          rw [World.cell?_alloc_lt _ _ _ (by have := hI2.low; show w.heap.size + 1 < _; omega), Lib.cell_of_heap hI2.seq]; rfl
        have e2 := (Lib.cell_of_heap hs4 2).trans rfl
        have g2 := Lib.frozen_of_heap hs4 2
        have HI4 := Lib.hid (And.intro (show (kids ++ [n]).length = i + 1 by simp [HI.out.1]) (And.intro (seqF_step_some hix HI.out.2.1 HX.out) hI4))
        clear hbx2 hb3 hI2 hI4 hb2 hn HC hs4
        go_wp2_with (at_builtin; refine wpl_append rfl (.tmp 28) (.tmp 30) 23 rfl _ _ _ rfl rfl hrun ?_)
        clear hrun
        go_wp2
        go_roundg gk'
        case measure => omega
        case rel => exact ⟨i + 1, kids ++ [n], A', c', by go_num, HN.out.1, HN.out.2, HI4⟩
    · obtain rfl : len = i := by omega
      have hltz : ¬ (len : Int) < (len : Int) := by omega
      have hR := seqF_end (by rw [HL.out.1]; omega) HI.out.2.1
      subst hR
      obtain ⟨A2, c2, e2, hn⟩ := HI.out.2.2.done HL.out.2.2
      rw [HI.out.1] at e2 hn
      simp only [Value.slice.injEq] at e2
      obtain ⟨rfl, _, rfl⟩ := e2
      have p0 := HI.out.2.2.res
      have q0 := HI.out.2.2.seq
      obtain ⟨r0, r1, r2, hB⟩ := res3 (y0 := .int .u8 48) (y1 := .slice none 0 0) (y2 := .slice Av len cv) (Nat.le_refl _) HI.out.2.2.bel p0
      have hn2 := res3_nd (b := w.heap.size) (y0 := .int .u8 48) (y1 := .slice none 0 0) (y2 := .slice Av len cv) (fun g hg => by rcases hg with hg | hg; have := HL.out.2.2 g hg; omega; omega) hn
      have f0 := Lib.frozen_of_heap p0 0
      have f1 := Lib.frozen_of_heap p0 1
      have f2 := Lib.frozen_of_heap p0 2
      have s0 := (Lib.cell_of_heap p0 0).trans rfl
      have s1 := (Lib.cell_of_heap p0 1).trans rfl
      have s2 := (Lib.cell_of_heap p0 2).trans rfl
      have u0 := (Lib.cell_of_heap q0 0).trans rfl
      have u1 := (Lib.cell_of_heap q0 1).trans rfl
      have u2 := (Lib.cell_of_heap q0 2).trans rfl
      have HE := Lib.hid (And.intro hB (NdC.mono (B' := fun g => Q g ∨ w.heap.size ≤ g) (fun g hg => hg.imp id (fun h => by omega)) _ _ _ _ hn2))
      clear hB hn hn2 p0 q0 hgk
      go_wp2_with fail
      refine bodyPost_ret (v := .tuple #[.agg #[.int .u8 48, .slice none 0 0, .slice Av len cv], .int .i64 0]) ?_ rfl ⟨HE.out.1, _, _, _, _, _, _, _, rfl, HE.out.2⟩
      simp [results, Tryz.results30, go_sem, r0, r1, r2]
end Go.Proofs.YthcancakkkjpaaaGreatDoor.nmc
