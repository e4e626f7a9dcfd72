/- The document's right principals, and the node of a name. -/
import Derived.Test.YthcancakkkjpaaaGreatDoorRj
import Derived.Deep.RegionHeld3
namespace Go.Proofs.YthcancakkkjpaaaGreatDoor.nmc
open Go.RowKit Go.Proofs.YthcancakkkjpaaaGreatDoor.tlvc Go.Proofs.YthcancakkkjpaaaGreatDoor.tlvd Go.Proofs.YthcancakkkjpaaaGreatDoor.ndc Go.Proofs.YthcancakkkjpaaaGreatDoor.txc Go.Proofs.YthcancakkkjpaaaGreatDoor.txm Go.Proofs.YthcancakkkjpaaaGreatDoor.intc Go.Proofs.YthcancakkkjpaaaGreatDoor.intm
set_option linter.unusedVariables false
set_option linter.unusedSimpArgs false
theorem below_drew (w : World) : Below w.heap.size w w.drew := (Below.refl _ _).drew
theorem cell_on {w w' : World} (hb : Below w.heap.size w w') {p : Addr} {v : Value} (h : w.cell? p = some v) : w'.cell? p = some v := (hb.cell (World.block_lt_of_cell? w p h)).trans h
/-- A list that a call makes, on its way; nothing else is written behind the world W0. -/
structure LInv {α : Type} (E : El α) (e : TypeId) (Y : Nat → Prop) (W0 : World) (v : Value) (xs : List α) (wx : World) : Prop where
  bel : Below W0.heap.size W0 wx
  row : GRow E e W0.heap.size Y wx v xs
section
variable {α : Type} {E : El α} {e : TypeId} {Y : Nat → Prop} {W0 wx w' : World} {v : Value} {xs : List α}
theorem LInv.start : LInv E e Y W0 (.slice none 0 0) [] W0 := ⟨Below.refl _ _, GRow.nil⟩
theorem LInv.below (hY : ∀ g, W0.heap.size ≤ g → Y g) (h : LInv E e Y W0 v xs wx) (hb : Below wx.heap.size wx w') : LInv E e Y W0 v xs w' := ⟨below_then h.bel hb (Nat.le_refl _), h.row.below hY hb⟩
theorem LInv.push {P : Program} {t : TypeId} {bytes : Nat} (I : Inf P t e E.sz bytes) (hY : ∀ g, W0.heap.size ≤ g → Y g) (h : LInv E e Y W0 v xs wx) (hb : Below wx.heap.size wx w') {x : α} {news : List Value} (hx : E.hold (fun g => Y g ∧ (g < W0.heap.size ∨ wx.heap.size ≤ g)) w' x news) {g1 : Nat} (hg1 : wx.heap.size ≤ g1) {T : TypeId} {fr : Nat × Nat} {cs : Array Value} (hbox : w'.heap[g1]? = some (.cells cs T fr)) (hcs : ∀ (j : Nat) (u : Value), news[j]? = some u → cs[j]? = some u) (hn : (xs.length + 1) * bytes ≤ 140737488355328) (hm : xs.length + 1 ≤ maxLen) :
    ∃ A c w2, (Builtin.append_ #[t, t] t #[v, .slice (some ⟨g1, 0, none⟩) 1 1]).run P w' = .ok (.slice A (xs.length + 1) c) w2 ∧ LInv E e Y W0 (.slice A (xs.length + 1) c) (xs ++ [x]) w2 := by
  have h' := h.below hY hb
  have hg1l := (Array.getElem?_eq_some_iff.1 hbox).1
  have hlow := h.bel.size
  have hlow' := h'.bel.size
  have hown := h.row.lt
  have ne : ∀ g, wx.heap.size ≤ g → some g ≠ v.ownBlock := fun g hg e => by have := (hown g e.symm).2; omega
  have ne2 : ∀ g, g < W0.heap.size → some g ≠ v.ownBlock := fun g hg e => by have := (hown g e.symm).1; omega
  obtain ⟨v', w2, hr, hrow, hgr⟩ := h'.row.app I hY t (g := g1) (off := 0) (c := 1) (x := x) (news := news) ⟨hY g1 (by omega), hg1l, ne g1 hg1⟩
    (fun j u hu => by rw [Nat.zero_add, Lib.cell_of_heap hbox]; exact hcs j u hu)
    (E.mono (fun g hg => ⟨hg.1.1, hg.2, hg.1.2.elim (ne2 g) (ne g)⟩) (E.bound hx)) hn hm hlow'
  obtain ⟨A, c, rfl, hc1, hc2⟩ := hrow.shape
  rw [show (xs ++ [x]).length = xs.length + 1 by simp] at hr hrow
  exact ⟨A, c, w2, hr, h'.bel.grown hgr hlow' (fun j hj => (hown j hj).1), hrow⟩
end
set_option maxRecDepth 100000 in
set_option maxHeartbeats 1000000 in
theorem rrightP_any (B : Nat → Prop) (p : Pr) (c0 c1 : Value) (w : World) (hp : PrC B w p c0 c1) (hT : Tabs w) :
    Calls Tryz.prog 28 #[.agg #[c0, c1]] w fun e w' => e = .returned (.bool (rightP p)) ∧ Below w.heap.size w w' := by
  obtain ⟨A, cap, rfl, rfl, hc, hm, hL, hs⟩ := hp
  have h9 : cap ≤ 9223372036854775807 := by unfold maxLen at hm; omega
  obtain ⟨len, hlen⟩ : ∃ x, p.names.length = x := ⟨_, rfl⟩
  have hrp : rightP p = (wordOK p.realm && decide (1 ≤ p.names.length) && decide (p.names.length ≤ 8) && p.names.all wordOK) := rfl
  obtain ⟨R, hR⟩ : ∃ x, rightP p = x := ⟨_, rfl⟩
  rw [hR] at hrp ⊢
  obtain ⟨s, hs0⟩ : ∃ x, p.realm = x := ⟨_, rfl⟩
  obtain ⟨xs, hxs⟩ : ∃ x, p.names = x := ⟨_, rfl⟩
  rw [hxs] at hlen hrp hL hc ⊢
  rw [hs0] at hs hrp ⊢
  rw [hlen] at hc hrp ⊢
  obtain ⟨W0, hW0⟩ : ∃ x, w.alloc (.cells #[.string s, .slice A len cap] 35) = x := ⟨_, rfl⟩
  have hb0 : Below w.heap.size w W0 := by rw [← hW0]; exact below_new _ _
  have q0 : W0.heap[w.heap.size]? = some (.cells #[.string s, .slice A len cap] 35) := by rw [← hW0]; exact heap_new_ _ _
  have hz0 : W0.heap.size = w.heap.size + 1 := by rw [← hW0]; simp
  have b0 : W0.cell? ⟨w.heap.size, 0, none⟩ = some (.string s) := (Lib.cell_of_heap q0 _).trans rfl
  have hbx : ∀ W, Below W0.heap.size W0 W → W.cell? ⟨w.heap.size, 1, none⟩ = some (.slice A len cap) ∧ Below w.heap.size w W := fun W hW => ⟨(hW.cell (p := ⟨w.heap.size, 1, none⟩) (by show w.heap.size < _; omega)).trans ((Lib.cell_of_heap q0 _).trans rfl), below_then hb0 hW (Nat.le_refl _)⟩
  have hwd := rword_any s W0 hs (hT.below hb0)
  obtain ⟨r, hr⟩ : ∃ x, wordOK s = x := ⟨_, rfl⟩
  rw [hr] at hwd hrp
  have HX := Lib.hid hbx
  have HL := Lib.hid (And.intro hlen hL)
  have HW := Lib.hid hwd
  have HR := Lib.hid hrp
  clear hbx hlen hL hwd hr hrp hs q0 hz0 hb0 hR hs0 hxs hm
  go_enter Tryz.func28, Tryz.ntmps28
  go_wp2_with fail
  refine HW.out.mono ?_
  rintro e w1 ⟨rfl, hb1⟩
  obtain ⟨b1, hB1⟩ := HX.out w1 hb1
  have HB := Lib.hid (And.intro hB1 hb1)
  clear hb1 hB1 HW b0
  cases r with
  | false =>
    have hR : R = false := HR.out
    subst hR
    go_wp2
    go_ret
    exact ⟨rfl, HB.out.1⟩
  | true =>
    by_cases h1 : ¬ 1 ≤ len
    · have hR : R = false := by rw [HR.out, decide_eq_false h1]; rfl
      subst hR
      obtain rfl : len = 0 := by omega
      go_wp2
      go_ret
      exact ⟨rfl, HB.out.1⟩
    have h1 : 1 ≤ len := by omega
    by_cases h8 : ¬ len ≤ 8
    · have hz1 : ¬ (len : Int) < 1 := by omega
      have hz2 : (8 : Int) < (len : Int) := by omega
      have hR : R = false := by rw [HR.out, decide_eq_false h8, Bool.and_false]; rfl
      subst hR
      go_wp2
      go_ret
      exact ⟨rfl, HB.out.1⟩
    have h8 : len ≤ 8 := by omega
    have hz1 : ¬ (len : Int) < 1 := by omega
    have hz2 : ¬ (8 : Int) < (len : Int) := by omega
    have hall : (xs.drop 0).all wordOK = R := by rw [HR.out, decide_eq_true h1, decide_eq_true h8, List.drop_zero]; rfl
    have HA := Lib.hid hall
    clear hall HR
    go_wp2_with fail
    go_loopg [3, 4] (len + 1) (fun gk s3 s4 wx => s3 = .bool true ∧ ∃ (i : Nat), s4 = .int .i64 i ∧ i ≤ len ∧ len - i < gk ∧ Hid ((xs.drop i).all wordOK = R ∧ Below W0.heap.size W0 wx))
    case atStart => exact ⟨rfl, 0, rfl, by omega, by omega, Lib.hid ⟨HA.out, HB.out.2⟩⟩
    case round =>
      obtain ⟨rfl, i, rfl, hi, hgk, HI⟩ := hrel
      clear HA HB b1
      obtain ⟨b1, hBw⟩ := HX.out wr HI.out.2
      have HBw := Lib.hid hBw
      clear hBw
      by_cases hlt : i < len
      · have hltz : (i : Int) < (len : Int) := by omega
        obtain ⟨gk', rfl⟩ : ∃ g', gk = g' + 1 := ⟨gk - 1, by omega⟩
        have HN := Lib.hid (And.intro (show i + 1 ≤ len from hlt) (show len - (i + 1) < gk' by omega))
        have hix : i < xs.length := by rw [HL.out.1]; exact hlt
        obtain ⟨g, off, cs, rfl, hg, hcell, hold⟩ := (HL.out.2.below HBw.out).at i hix
        obtain ⟨rfl, hx5⟩ := hold
        have e0 := hcell 0 _ rfl
        rw [show stE.sz = 1 from rfl] at e0
        rw [Nat.add_zero, Nat.mul_one] at e0
        have hwd := rword_any xs[i] wr hx5 (hT.below HBw.out)
        obtain ⟨tx, htx⟩ : ∃ t, xs[i] = t := ⟨_, rfl⟩
        rw [htx] at e0 hwd
        obtain ⟨r, hr⟩ : ∃ x, wordOK tx = x := ⟨_, rfl⟩
        rw [hr] at hwd
        have HW := Lib.hid hwd
        have HA := Lib.hid (show wordOK xs[i] = r by rw [htx]; exact hr)
        clear hwd hr htx hx5 hcell hgk
        go_wp2_with fail
        refine HW.out.mono ?_
        rintro e w3 ⟨rfl, hb3⟩
        have hbl := below_then HI.out.2 hb3 (Nat.le_refl _)
        obtain ⟨b3, hB3⟩ := HX.out w3 hbl
        have HB3 := Lib.hid (And.intro hB3 hbl)
        clear hb3 hbl hB3 HW e0 b1
        cases r with
        | false =>
          have hR := all_drop_no hix HI.out.1 HA.out
          subst hR
          go_wp2
          go_ret
          exact ⟨rfl, HB3.out.1⟩
        | true =>
          have HST := Lib.hid (all_drop_yes hix HI.out.1 HA.out)
          go_wp2
          go_roundg gk'
          case measure => omega
          case rel => exact ⟨rfl, i + 1, by go_num, HN.out.1, HN.out.2, Lib.hid ⟨HST.out, HB3.out.2⟩⟩
      · obtain rfl : len = i := by omega
        have hltz : ¬ (len : Int) < (len : Int) := by omega
        have hR := all_drop_end (by rw [HL.out.1]; omega) HI.out.1
        subst hR
        clear hgk
        go_wp2
        go_ret
        exact ⟨rfl, HBw.out⟩
end Go.Proofs.YthcancakkkjpaaaGreatDoor.nmc
