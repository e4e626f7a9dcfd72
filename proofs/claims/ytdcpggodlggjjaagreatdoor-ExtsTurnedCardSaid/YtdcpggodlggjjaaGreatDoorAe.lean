/- The program's each, at eight pairs of types. -/
import Derived.Test.YtdcpggodlggjjaaGreatDoorAd
namespace Go.Proofs.YtdcpggodlggjjaaGreatDoor.nmc
open Go.RowKit Go.Proofs.YtdcpggodlggjjaaGreatDoor.tlvc Go.Proofs.YtdcpggodlggjjaaGreatDoor.tlvd Go.Proofs.YtdcpggodlggjjaaGreatDoor.ndc Go.Proofs.YtdcpggodlggjjaaGreatDoor.txc Go.Proofs.YtdcpggodlggjjaaGreatDoor.txm Go.Proofs.YtdcpggodlggjjaaGreatDoor.intc Go.Proofs.YtdcpggodlggjjaaGreatDoor.intm
set_option linter.unusedVariables false
set_option linter.unusedSimpArgs false
theorem OdC.mono {S S' : Nat → Prop} {w : World} {o : Od} {c0 c1 c2 : Value} (hS : ∀ g, S g → S' g) (h : OdC S w o c0 c1 c2) : OdC S' w o c0 c1 c2 := ⟨h.1.mono hS, h.2.1, h.2.2.mono hS⟩
/-- A principal, an odd extension, that a call makes. -/
def PVal (S : Nat → Prop) (w : World) (p : Pr) (e : Ending) (w' : World) : Prop :=
 Below w.heap.size w w' ∧ ∃ A c, e = .returned (.agg #[.string p.realm, .slice A p.names.length c]) ∧ p.names.length ≤ c ∧ c ≤ maxLen ∧ Lst stE S w' A p.names ∧ p.realm.size ≤ maxLen
def OVal (S : Nat → Prop) (w : World) (o : Od) (e : Ending) (w' : World) : Prop :=
 Below w.heap.size w w' ∧ ∃ A l c B m n, e = .returned (.agg #[.slice A l c, .bool o.crit, .slice B m n]) ∧ OdC S w' o (.slice A l c) (.bool o.crit) (.slice B m n)
theorem Tryz.infoOdd : (Tryz.prog.info? 60).map (fun i => (i.zero, i.size, i.bytes)) = some (some (.agg #[.slice none 0 0, .bool false, .slice none 0 0]), 3, 56) := by kernel_rfl
theorem Tryz.infoInts : (Tryz.prog.info? 51).map (fun i => (i.zero, i.size, i.bytes)) = some (some (.slice none 0 0), 1, 24) := by kernel_rfl
theorem Tryz.infoName : (Tryz.prog.info? 79).map (fun i => (i.zero, i.size, i.bytes)) = some (some (.slice none 0 0), 1, 24) := by kernel_rfl
theorem Tryz.infoPrinc : (Tryz.prog.info? 76).map (fun i => (i.zero, i.size, i.bytes)) = some (some (.agg #[.string ⟨#[]⟩, .slice none 0 0]), 2, 40) := by kernel_rfl
theorem Tryz.infO : Inf Tryz.prog 26 60 odE.sz 56 := by
 obtain ⟨i0, hi, hz0, hz1, hz2⟩ := info_parts Tryz.infoOdd
 exact ⟨Tryz.underlying26, i0, _, hi, hz0, hz1, hz2, rfl⟩
theorem Tryz.infI : Inf Tryz.prog 23 51 inE.sz 24 := by
 obtain ⟨i0, hi, hz0, hz1, hz2⟩ := info_parts Tryz.infoInts
 exact ⟨Tryz.underlying23, i0, _, hi, hz0, hz1, hz2, rfl⟩
theorem Tryz.infNm : Inf Tryz.prog 25 79 nmE.sz 24 := by
 obtain ⟨i0, hi, hz0, hz1, hz2⟩ := info_parts Tryz.infoName
 exact ⟨Tryz.underlying25, i0, _, hi, hz0, hz1, hz2, rfl⟩
theorem Tryz.infP : Inf Tryz.prog 24 76 prE.sz 40 := by
 obtain ⟨i0, hi, hz0, hz1, hz2⟩ := info_parts Tryz.infoPrinc
 exact ⟨Tryz.underlying24, i0, _, hi, hz0, hz1, hz2, rfl⟩
set_option maxRecDepth 100000 in
set_option maxHeartbeats 8000000 in
theorem eachOdN (B : Nat → Prop) (G : Od → Nd) (f : FuncId) (A : Option Addr) (len cap : Nat) (xs : List (Od)) (w : World) (hl : xs.length = len) (hL : Lst odE B w A xs) (hc : len ≤ cap) (hm : cap ≤ maxLen) (hlen : len ≤ 1000)
 (hen : ∀ args w, (callFunc f args).run Tryz.prog w = .ok (.enter f args) w)
 (hf : ∀ x ∈ xs, ∀ (W : World), Below w.heap.size w W → ∀ c0 c1 c2 : Value, odE.hold B W x [c0, c1, c2] → Calls Tryz.prog f #[.agg #[c0, c1, c2]] W (NVal (fun g => W.heap.size ≤ g) W (G x))) :
 Calls Tryz.prog 22 #[.slice A len cap, .func (.func f) #[] #[]] w (LVal ndE (fun g => w.heap.size ≤ g) w (xs.map G)) := by
 have h9 : cap ≤ 9223372036854775807 := by unfold maxLen at hm; omega
 obtain ⟨TL, hTL⟩ : ∃ x, xs.map G = x := ⟨_, rfl⟩
 have hTL3 : TL.length = len := by rw [← hTL, List.length_map, hl]
 have hlk : ∀ i, i ≤ len → ((xs.take i).map G).length = i := fun i hi => by rw [List.length_map, List.length_take]; omega
 rw [hTL]
 unfold LVal
 rw [hTL3]
 have HTL := Lib.hid hTL
 have HL := Lib.hid (And.intro hl (And.intro hL (And.intro hlk hf)))
 have HK := Lib.hid hlen
 clear hl hL hlk hf hTL hTL3 hm hlen
 go_enter Tryz.func22, Tryz.ntmps22
 go_wp2_with fail
 go_loopg [5, 10] (len + 1) (fun gk s5 s10 wx => ∃ (i : Nat) (Av : Option Addr) (cv : Nat), s5 = .slice Av i cv ∧ s10 = .int .i64 i ∧ i ≤ len ∧ len - i < gk ∧ Hid (LInv ndE 33 (fun g => w.heap.size ≤ g) w (.slice Av i cv) ((xs.take i).map G) wx))
 case atStart => exact ⟨0, none, 0, rfl, rfl, by omega, by omega, Lib.hid LInv.start⟩
 case round =>
  obtain ⟨i, Av, cv, rfl, rfl, hi, hgk, HI⟩ := hrel
  by_cases hlt : i < len
  ·have hltz : (i : Int) < (len : Int) := by omega
   obtain ⟨gk', rfl⟩ : ∃ g', gk = g' + 1 := ⟨gk - 1, by omega⟩
   have HN := Lib.hid (And.intro (show i + 1 ≤ len from hlt) (show len - (i + 1) < gk' by omega))
   have hix : i < xs.length := by rw [HL.out.1]; exact hlt
   obtain ⟨g, off, cs, rfl, _, hcell, d0, d1, d2, rfl, ⟨A1, l1, k1, rfl, hi0⟩, rfl, A2, l2, k2, rfl, hi2⟩ := (HL.out.2.1.below HI.out.bel).at i hix
   have e0 := hcell 0 _ rfl
   have e1 := hcell 1 _ rfl
   have e2 := hcell 2 _ rfl
   rw [show odE.sz = 3 from rfl] at e0 e1 e2
   rw [Nat.add_zero] at e0
   obtain ⟨b1, hb1⟩ : ∃ x, (xs[i]).crit = x := ⟨_, rfl⟩
   rw [hb1] at e1
   clear hcell
   have hbx : Below wr.heap.size wr (wr.alloc (.cells #[.slice A1 l1 k1, .bool b1, .slice A2 l2 k2] 60)) := below_new _ _
   have hcall := HL.out.2.2.2 xs[i] (List.getElem_mem hix) _ (below_then HI.out.bel hbx (Nat.le_refl _)) _ _ _ (El.below (E := odE) ⟨_, _, _, rfl, ⟨A1, l1, k1, rfl, hi0⟩, by rw [hb1], A2, l2, k2, rfl, hi2⟩ hbx)
   have hnx : (xs.take i).map G ++ [G xs[i]] = (xs.take (i + 1)).map G := by rw [List.take_succ_eq_append_getElem hix, List.map_append, List.map_cons, List.map_nil]
   have hlk := HL.out.2.2.1 i hi
   have HC := Lib.hid hcall
   have HB := Lib.hid hbx
   clear hcall hbx hgk hi0 hi2 hb1
   go_wp2_with fail
   refine HC.out.mono ?_
   rintro e w2 ⟨hb2, t3, A3, l3, c3, K3, m3, n3, rfl, hold⟩
   have h0 := HB.out.size
   have hwz := HI.out.bel.size
   have hb3 := below_then HB.out hb2 (Nat.le_refl _)
   have hk1000 := HK.out
   obtain ⟨A7, c7, w7, hrun, hI7⟩ := HI.out.push Tryz.infN (fun g hg => hg) (below_then hb3 (below_new w2 (.cells #[.int .u8 t3, .slice A3 l3 c3, .slice K3 m3 n3] 33)) (Nat.le_refl _)) (x := G xs[i]) (news := [.int .u8 t3, .slice A3 l3 c3, .slice K3 m3 n3]) (⟨_, _, _, rfl, NdC.mono (fun g hg => (fun g (hg : (wr.alloc (.cells #[.slice A1 l1 k1, .bool b1, .slice A2 l2 k2] 60)).heap.size ≤ g) => (⟨Nat.le_trans hwz (Nat.le_trans h0 hg), .inr (Nat.le_trans h0 hg)⟩ : w.heap.size ≤ g ∧ (g < w.heap.size ∨ wr.heap.size ≤ g))) g hg) _ _ _ _ (NdC.below (below_new _ _) _ _ _ _ hold)⟩) (g1 := w2.heap.size) hb3.size (heap_new_ _ _) (fun j u hu => by
    simpa using hu) (by rw [hlk]; omega) (by rw [hlk]; unfold maxLen; omega)
   rw [hlk] at hrun hI7
   rw [hnx] at hI7
   have HI7 := Lib.hid hI7
   clear hI7 hnx hlk e0 e1 e2 HC HB hb2 hb3 hold h0 hwz hk1000
   go_wp2_with (at_builtin; refine wpl_append rfl (.tmp 14) (.tmp 18) 31 rfl _ _ _ rfl rfl hrun ?_)
   clear hrun
   go_wp2
   go_roundg gk'
   case measure => omega
   case rel => exact ⟨i + 1, A7, c7, rfl, by go_num, HN.out.1, HN.out.2, HI7⟩
  ·obtain rfl : len = i := by omega
   have hltz : ¬ (len : Int) < (len : Int) := by omega
   obtain ⟨A2, c2, e2, h1, h2, hLn⟩ := HI.out.row.lst (fun g hg => hg)
   have hlk := HL.out.2.2.1 len (Nat.le_refl _)
   rw [hlk] at e2 h1
   simp only [Value.slice.injEq] at e2
   obtain ⟨rfl, _, rfl⟩ := e2
   rw [List.take_of_length_le (by rw [HL.out.1]; exact Nat.le_refl _), HTL.out] at hLn
   have HF := Lib.hid (And.intro HI.out.bel (And.intro h1 (And.intro h2 hLn)))
   clear h1 h2 hLn hgk hlk
   go_wp2
   go_ret
   exact ⟨HF.out.1, Av, cv, rfl, HF.out.2.1, HF.out.2.2.1, HF.out.2.2.2⟩
set_option maxRecDepth 100000 in
set_option maxHeartbeats 8000000 in
theorem eachInN (B : Nat → Prop) (G : List Int → Nd) (f : FuncId) (A : Option Addr) (len cap : Nat) (xs : List (List Int)) (w : World) (hl : xs.length = len) (hL : Lst inE B w A xs) (hc : len ≤ cap) (hm : cap ≤ maxLen) (hlen : len ≤ 1000)
 (hen : ∀ args w, (callFunc f args).run Tryz.prog w = .ok (.enter f args) w)
 (hf : ∀ x ∈ xs, ∀ (W : World), Below w.heap.size w W → ∀ c0 : Value, inE.hold B W x [c0] → Calls Tryz.prog f #[c0] W (NVal (fun g => W.heap.size ≤ g) W (G x))) :
 Calls Tryz.prog 50 #[.slice A len cap, .func (.func f) #[] #[]] w (LVal ndE (fun g => w.heap.size ≤ g) w (xs.map G)) := by
 have h9 : cap ≤ 9223372036854775807 := by unfold maxLen at hm; omega
 obtain ⟨TL, hTL⟩ : ∃ x, xs.map G = x := ⟨_, rfl⟩
 have hTL3 : TL.length = len := by rw [← hTL, List.length_map, hl]
 have hlk : ∀ i, i ≤ len → ((xs.take i).map G).length = i := fun i hi => by rw [List.length_map, List.length_take]; omega
 rw [hTL]
 unfold LVal
 rw [hTL3]
 have HTL := Lib.hid hTL
 have HL := Lib.hid (And.intro hl (And.intro hL (And.intro hlk hf)))
 have HK := Lib.hid hlen
 clear hl hL hlk hf hTL hTL3 hm hlen
 go_enter Tryz.func50, Tryz.ntmps50
 go_wp2_with fail
 go_loopg [5, 10] (len + 1) (fun gk s5 s10 wx => ∃ (i : Nat) (Av : Option Addr) (cv : Nat), s5 = .slice Av i cv ∧ s10 = .int .i64 i ∧ i ≤ len ∧ len - i < gk ∧ Hid (LInv ndE 33 (fun g => w.heap.size ≤ g) w (.slice Av i cv) ((xs.take i).map G) wx))
 case atStart => exact ⟨0, none, 0, rfl, rfl, by omega, by omega, Lib.hid LInv.start⟩
 case round =>
  obtain ⟨i, Av, cv, rfl, rfl, hi, hgk, HI⟩ := hrel
  by_cases hlt : i < len
  ·have hltz : (i : Int) < (len : Int) := by omega
   obtain ⟨gk', rfl⟩ : ∃ g', gk = g' + 1 := ⟨gk - 1, by omega⟩
   have HN := Lib.hid (And.intro (show i + 1 ≤ len from hlt) (show len - (i + 1) < gk' by omega))
   have hix : i < xs.length := by rw [HL.out.1]; exact hlt
   obtain ⟨g, off, cs, rfl, _, hcell, d0, rfl, A1, l1, k1, rfl, hi0⟩ := (HL.out.2.1.below HI.out.bel).at i hix
   have e0 := hcell 0 _ rfl
   rw [show inE.sz = 1 from rfl, Nat.mul_one, Nat.add_zero] at e0
   clear hcell
   have hbx : Below wr.heap.size wr (wr) := Below.refl _ _
   have hcall := HL.out.2.2.2 xs[i] (List.getElem_mem hix) _ (below_then HI.out.bel hbx (Nat.le_refl _)) _ (El.below (E := inE) ⟨_, rfl, A1, l1, k1, rfl, hi0⟩ hbx)
   have hnx : (xs.take i).map G ++ [G xs[i]] = (xs.take (i + 1)).map G := by rw [List.take_succ_eq_append_getElem hix, List.map_append, List.map_cons, List.map_nil]
   have hlk := HL.out.2.2.1 i hi
   have HC := Lib.hid hcall
   have HB := Lib.hid hbx
   clear hcall hbx hgk hi0
   go_wp2_with fail
   refine HC.out.mono ?_
   rintro e w2 ⟨hb2, t3, A3, l3, c3, K3, m3, n3, rfl, hold⟩
   have h0 := HB.out.size
   have hwz := HI.out.bel.size
   have hb3 := below_then HB.out hb2 (Nat.le_refl _)
   have hk1000 := HK.out
   obtain ⟨A7, c7, w7, hrun, hI7⟩ := HI.out.push Tryz.infN (fun g hg => hg) (below_then hb3 (below_new w2 (.cells #[.int .u8 t3, .slice A3 l3 c3, .slice K3 m3 n3] 33)) (Nat.le_refl _)) (x := G xs[i]) (news := [.int .u8 t3, .slice A3 l3 c3, .slice K3 m3 n3]) (⟨_, _, _, rfl, NdC.mono (fun g hg => (fun g (hg : (wr).heap.size ≤ g) => (⟨Nat.le_trans hwz (Nat.le_trans h0 hg), .inr (Nat.le_trans h0 hg)⟩ : w.heap.size ≤ g ∧ (g < w.heap.size ∨ wr.heap.size ≤ g))) g hg) _ _ _ _ (NdC.below (below_new _ _) _ _ _ _ hold)⟩) (g1 := w2.heap.size) hb3.size (heap_new_ _ _) (fun j u hu => by
    simpa using hu) (by rw [hlk]; omega) (by rw [hlk]; unfold maxLen; omega)
   rw [hlk] at hrun hI7
   rw [hnx] at hI7
   have HI7 := Lib.hid hI7
   clear hI7 hnx hlk e0 HC HB hb2 hb3 hold h0 hwz hk1000
   go_wp2_with (at_builtin; refine wpl_append rfl (.tmp 14) (.tmp 18) 31 rfl _ _ _ rfl rfl hrun ?_)
   clear hrun
   go_wp2
   go_roundg gk'
   case measure => omega
   case rel => exact ⟨i + 1, A7, c7, rfl, by go_num, HN.out.1, HN.out.2, HI7⟩
  ·obtain rfl : len = i := by omega
   have hltz : ¬ (len : Int) < (len : Int) := by omega
   obtain ⟨A2, c2, e2, h1, h2, hLn⟩ := HI.out.row.lst (fun g hg => hg)
   have hlk := HL.out.2.2.1 len (Nat.le_refl _)
   rw [hlk] at e2 h1
   simp only [Value.slice.injEq] at e2
   obtain ⟨rfl, _, rfl⟩ := e2
   rw [List.take_of_length_le (by rw [HL.out.1]; exact Nat.le_refl _), HTL.out] at hLn
   have HF := Lib.hid (And.intro HI.out.bel (And.intro h1 (And.intro h2 hLn)))
   clear h1 h2 hLn hgk hlk
   go_wp2
   go_ret
   exact ⟨HF.out.1, Av, cv, rfl, HF.out.2.1, HF.out.2.2.1, HF.out.2.2.2⟩
set_option maxRecDepth 100000 in
set_option maxHeartbeats 8000000 in
theorem eachPrN (B : Nat → Prop) (G : Pr → Nd) (f : FuncId) (q : Value) (A : Option Addr) (len cap : Nat) (xs : List (Pr)) (w : World) (hl : xs.length = len) (hL : Lst prE B w A xs) (hc : len ≤ cap) (hm : cap ≤ maxLen) (hlen : len ≤ 1000)
 (hen : ∀ args w, (callFunc f args).run Tryz.prog w = .ok (.enter f args) w)
 (hf : ∀ x ∈ xs, ∀ (W : World), Below w.heap.size w W → ∀ c0 c1 : Value, prE.hold B W x [c0, c1] → Calls Tryz.prog f #[.agg #[c0, c1], q] W (NVal (fun g => W.heap.size ≤ g) W (G x))) :
 Calls Tryz.prog 57 #[.slice A len cap, .func (.func f) #[] #[q]] w (LVal ndE (fun g => w.heap.size ≤ g) w (xs.map G)) := by
 have h9 : cap ≤ 9223372036854775807 := by unfold maxLen at hm; omega
 obtain ⟨TL, hTL⟩ : ∃ x, xs.map G = x := ⟨_, rfl⟩
 have hTL3 : TL.length = len := by rw [← hTL, List.length_map, hl]
 have hlk : ∀ i, i ≤ len → ((xs.take i).map G).length = i := fun i hi => by rw [List.length_map, List.length_take]; omega
 rw [hTL]
 unfold LVal
 rw [hTL3]
 have HTL := Lib.hid hTL
 have HL := Lib.hid (And.intro hl (And.intro hL (And.intro hlk hf)))
 have HK := Lib.hid hlen
 clear hl hL hlk hf hTL hTL3 hm hlen
 go_enter Tryz.func57, Tryz.ntmps57
 go_wp2_with fail
 go_loopg [5, 10] (len + 1) (fun gk s5 s10 wx => ∃ (i : Nat) (Av : Option Addr) (cv : Nat), s5 = .slice Av i cv ∧ s10 = .int .i64 i ∧ i ≤ len ∧ len - i < gk ∧ Hid (LInv ndE 33 (fun g => w.heap.size ≤ g) w (.slice Av i cv) ((xs.take i).map G) wx))
 case atStart => exact ⟨0, none, 0, rfl, rfl, by omega, by omega, Lib.hid LInv.start⟩
 case round =>
  obtain ⟨i, Av, cv, rfl, rfl, hi, hgk, HI⟩ := hrel
  by_cases hlt : i < len
  ·have hltz : (i : Int) < (len : Int) := by omega
   obtain ⟨gk', rfl⟩ : ∃ g', gk = g' + 1 := ⟨gk - 1, by omega⟩
   have HN := Lib.hid (And.intro (show i + 1 ≤ len from hlt) (show len - (i + 1) < gk' by omega))
   have hix : i < xs.length := by rw [HL.out.1]; exact hlt
   obtain ⟨g, off, cs, rfl, _, hcell, d0, d1, rfl, A1, k1, rfl, rfl, hi0⟩ := (HL.out.2.1.below HI.out.bel).at i hix
   have e0 := hcell 0 _ rfl
   have e1 := hcell 1 _ rfl
   rw [show prE.sz = 2 from rfl] at e0 e1
   rw [Nat.add_zero] at e0
   obtain ⟨l1, hl1⟩ : ∃ x, (xs[i]).names.length = x := ⟨_, rfl⟩
   obtain ⟨s1, hs1⟩ : ∃ x, (xs[i]).realm = x := ⟨_, rfl⟩
   rw [hl1] at e1
   rw [hs1] at e0
   clear hcell
   have hbx : Below wr.heap.size wr (wr.alloc (.cells #[.string s1, .slice A1 l1 k1] 76)) := below_new _ _
   have hcall := HL.out.2.2.2 xs[i] (List.getElem_mem hix) _ (below_then HI.out.bel hbx (Nat.le_refl _)) _ _ (El.below (E := prE) ⟨_, _, rfl, A1, k1, by rw [hs1], by rw [hl1], hi0⟩ hbx)
   have hnx : (xs.take i).map G ++ [G xs[i]] = (xs.take (i + 1)).map G := by rw [List.take_succ_eq_append_getElem hix, List.map_append, List.map_cons, List.map_nil]
   have hlk := HL.out.2.2.1 i hi
   have HC := Lib.hid hcall
   have HB := Lib.hid hbx
   clear hcall hbx hgk hi0 hl1 hs1
   go_wp2_with fail
   refine HC.out.mono ?_
   rintro e w2 ⟨hb2, t3, A3, l3, c3, K3, m3, n3, rfl, hold⟩
   have h0 := HB.out.size
   have hwz := HI.out.bel.size
   have hb3 := below_then HB.out hb2 (Nat.le_refl _)
   have hk1000 := HK.out
   obtain ⟨A7, c7, w7, hrun, hI7⟩ := HI.out.push Tryz.infN (fun g hg => hg) (below_then hb3 (below_new w2 (.cells #[.int .u8 t3, .slice A3 l3 c3, .slice K3 m3 n3] 33)) (Nat.le_refl _)) (x := G xs[i]) (news := [.int .u8 t3, .slice A3 l3 c3, .slice K3 m3 n3]) (⟨_, _, _, rfl, NdC.mono (fun g hg => (fun g (hg : (wr.alloc (.cells #[.string s1, .slice A1 l1 k1] 76)).heap.size ≤ g) => (⟨Nat.le_trans hwz (Nat.le_trans h0 hg), .inr (Nat.le_trans h0 hg)⟩ : w.heap.size ≤ g ∧ (g < w.heap.size ∨ wr.heap.size ≤ g))) g hg) _ _ _ _ (NdC.below (below_new _ _) _ _ _ _ hold)⟩) (g1 := w2.heap.size) hb3.size (heap_new_ _ _) (fun j u hu => by
    simpa using hu) (by rw [hlk]; omega) (by rw [hlk]; unfold maxLen; omega)
   rw [hlk] at hrun hI7
   rw [hnx] at hI7
   have HI7 := Lib.hid hI7
   clear hI7 hnx hlk e0 e1 HC HB hb2 hb3 hold h0 hwz hk1000
   go_wp2_with (at_builtin; refine wpl_append rfl (.tmp 14) (.tmp 18) 31 rfl _ _ _ rfl rfl hrun ?_)
   clear hrun
   go_wp2
   go_roundg gk'
   case measure => omega
   case rel => exact ⟨i + 1, A7, c7, rfl, by go_num, HN.out.1, HN.out.2, HI7⟩
  ·obtain rfl : len = i := by omega
   have hltz : ¬ (len : Int) < (len : Int) := by omega
   obtain ⟨A2, c2, e2, h1, h2, hLn⟩ := HI.out.row.lst (fun g hg => hg)
   have hlk := HL.out.2.2.1 len (Nat.le_refl _)
   rw [hlk] at e2 h1
   simp only [Value.slice.injEq] at e2
   obtain ⟨rfl, _, rfl⟩ := e2
   rw [List.take_of_length_le (by rw [HL.out.1]; exact Nat.le_refl _), HTL.out] at hLn
   have HF := Lib.hid (And.intro HI.out.bel (And.intro h1 (And.intro h2 hLn)))
   clear h1 h2 hLn hgk hlk
   go_wp2
   go_ret
   exact ⟨HF.out.1, Av, cv, rfl, HF.out.2.1, HF.out.2.2.1, HF.out.2.2.2⟩
set_option maxRecDepth 100000 in
set_option maxHeartbeats 8000000 in
theorem eachNmN (B : Nat → Prop) (G : List At → Nd) (f : FuncId) (q : Value) (A : Option Addr) (len cap : Nat) (xs : List (List At)) (w : World) (hl : xs.length = len) (hL : Lst nmE B w A xs) (hc : len ≤ cap) (hm : cap ≤ maxLen) (hlen : len ≤ 1000)
 (hen : ∀ args w, (callFunc f args).run Tryz.prog w = .ok (.enter f args) w)
 (hf : ∀ x ∈ xs, ∀ (W : World), Below w.heap.size w W → ∀ c0 : Value, nmE.hold B W x [c0] → Calls Tryz.prog f #[c0, q] W (NVal (fun g => W.heap.size ≤ g) W (G x))) :
 Calls Tryz.prog 65 #[.slice A len cap, .func (.func f) #[] #[q]] w (LVal ndE (fun g => w.heap.size ≤ g) w (xs.map G)) := by
 have h9 : cap ≤ 9223372036854775807 := by unfold maxLen at hm; omega
 obtain ⟨TL, hTL⟩ : ∃ x, xs.map G = x := ⟨_, rfl⟩
 have hTL3 : TL.length = len := by rw [← hTL, List.length_map, hl]
 have hlk : ∀ i, i ≤ len → ((xs.take i).map G).length = i := fun i hi => by rw [List.length_map, List.length_take]; omega
 rw [hTL]
 unfold LVal
 rw [hTL3]
 have HTL := Lib.hid hTL
 have HL := Lib.hid (And.intro hl (And.intro hL (And.intro hlk hf)))
 have HK := Lib.hid hlen
 clear hl hL hlk hf hTL hTL3 hm hlen
 go_enter Tryz.func65, Tryz.ntmps65
 go_wp2_with fail
 go_loopg [5, 10] (len + 1) (fun gk s5 s10 wx => ∃ (i : Nat) (Av : Option Addr) (cv : Nat), s5 = .slice Av i cv ∧ s10 = .int .i64 i ∧ i ≤ len ∧ len - i < gk ∧ Hid (LInv ndE 33 (fun g => w.heap.size ≤ g) w (.slice Av i cv) ((xs.take i).map G) wx))
 case atStart => exact ⟨0, none, 0, rfl, rfl, by omega, by omega, Lib.hid LInv.start⟩
 case round =>
  obtain ⟨i, Av, cv, rfl, rfl, hi, hgk, HI⟩ := hrel
  by_cases hlt : i < len
  ·have hltz : (i : Int) < (len : Int) := by omega
   obtain ⟨gk', rfl⟩ : ∃ g', gk = g' + 1 := ⟨gk - 1, by omega⟩
   have HN := Lib.hid (And.intro (show i + 1 ≤ len from hlt) (show len - (i + 1) < gk' by omega))
   have hix : i < xs.length := by rw [HL.out.1]; exact hlt
   obtain ⟨g, off, cs, rfl, _, hcell, d0, rfl, A1, k1, rfl, hi0⟩ := (HL.out.2.1.below HI.out.bel).at i hix
   have e0 := hcell 0 _ rfl
   rw [show nmE.sz = 1 from rfl, Nat.mul_one, Nat.add_zero] at e0
   obtain ⟨l1, hl1⟩ : ∃ x, (xs[i]).length = x := ⟨_, rfl⟩
   rw [hl1] at e0
   clear hcell
   have hbx : Below wr.heap.size wr (wr) := Below.refl _ _
   have hcall := HL.out.2.2.2 xs[i] (List.getElem_mem hix) _ (below_then HI.out.bel hbx (Nat.le_refl _)) _ (El.below (E := nmE) ⟨_, rfl, A1, k1, by rw [hl1], hi0⟩ hbx)
   have hnx : (xs.take i).map G ++ [G xs[i]] = (xs.take (i + 1)).map G := by rw [List.take_succ_eq_append_getElem hix, List.map_append, List.map_cons, List.map_nil]
   have hlk := HL.out.2.2.1 i hi
   have HC := Lib.hid hcall
   have HB := Lib.hid hbx
   clear hcall hbx hgk hi0 hl1
   go_wp2_with fail
   refine HC.out.mono ?_
   rintro e w2 ⟨hb2, t3, A3, l3, c3, K3, m3, n3, rfl, hold⟩
   have h0 := HB.out.size
   have hwz := HI.out.bel.size
   have hb3 := below_then HB.out hb2 (Nat.le_refl _)
   have hk1000 := HK.out
   obtain ⟨A7, c7, w7, hrun, hI7⟩ := HI.out.push Tryz.infN (fun g hg => hg) (below_then hb3 (below_new w2 (.cells #[.int .u8 t3, .slice A3 l3 c3, .slice K3 m3 n3] 33)) (Nat.le_refl _)) (x := G xs[i]) (news := [.int .u8 t3, .slice A3 l3 c3, .slice K3 m3 n3]) (⟨_, _, _, rfl, NdC.mono (fun g hg => (fun g (hg : (wr).heap.size ≤ g) => (⟨Nat.le_trans hwz (Nat.le_trans h0 hg), .inr (Nat.le_trans h0 hg)⟩ : w.heap.size ≤ g ∧ (g < w.heap.size ∨ wr.heap.size ≤ g))) g hg) _ _ _ _ (NdC.below (below_new _ _) _ _ _ _ hold)⟩) (g1 := w2.heap.size) hb3.size (heap_new_ _ _) (fun j u hu => by
    simpa using hu) (by rw [hlk]; omega) (by rw [hlk]; unfold maxLen; omega)
   rw [hlk] at hrun hI7
   rw [hnx] at hI7
   have HI7 := Lib.hid hI7
   clear hI7 hnx hlk e0 HC HB hb2 hb3 hold h0 hwz hk1000
   go_wp2_with (at_builtin; refine wpl_append rfl (.tmp 14) (.tmp 18) 31 rfl _ _ _ rfl rfl hrun ?_)
   clear hrun
   go_wp2
   go_roundg gk'
   case measure => omega
   case rel => exact ⟨i + 1, A7, c7, rfl, by go_num, HN.out.1, HN.out.2, HI7⟩
  ·obtain rfl : len = i := by omega
   have hltz : ¬ (len : Int) < (len : Int) := by omega
   obtain ⟨A2, c2, e2, h1, h2, hLn⟩ := HI.out.row.lst (fun g hg => hg)
   have hlk := HL.out.2.2.1 len (Nat.le_refl _)
   rw [hlk] at e2 h1
   simp only [Value.slice.injEq] at e2
   obtain ⟨rfl, _, rfl⟩ := e2
   rw [List.take_of_length_le (by rw [HL.out.1]; exact Nat.le_refl _), HTL.out] at hLn
   have HF := Lib.hid (And.intro HI.out.bel (And.intro h1 (And.intro h2 hLn)))
   clear h1 h2 hLn hgk hlk
   go_wp2
   go_ret
   exact ⟨HF.out.1, Av, cv, rfl, HF.out.2.1, HF.out.2.2.1, HF.out.2.2.2⟩
set_option maxRecDepth 100000 in
set_option maxHeartbeats 8000000 in
theorem eachNIn (B : Nat → Prop) (G : Nd → List Int) (f : FuncId) (A : Option Addr) (len cap : Nat) (xs : List (Nd)) (w : World) (hl : xs.length = len) (hL : Lst ndE B w A xs) (hc : len ≤ cap) (hm : cap ≤ maxLen) (hlen : len ≤ 1000)
 (hen : ∀ args w, (callFunc f args).run Tryz.prog w = .ok (.enter f args) w)
 (hf : ∀ x ∈ xs, ∀ (W : World), Below w.heap.size w W → ∀ c0 c1 c2 : Value, ndE.hold B W x [c0, c1, c2] → Calls Tryz.prog f #[.agg #[c0, c1, c2]] W (IMade W (G x))) :
 Calls Tryz.prog 53 #[.slice A len cap, .func (.func f) #[] #[]] w (LVal inE (fun g => w.heap.size ≤ g) w (xs.map G)) := by
 have h9 : cap ≤ 9223372036854775807 := by unfold maxLen at hm; omega
 obtain ⟨TL, hTL⟩ : ∃ x, xs.map G = x := ⟨_, rfl⟩
 have hTL3 : TL.length = len := by rw [← hTL, List.length_map, hl]
 have hlk : ∀ i, i ≤ len → ((xs.take i).map G).length = i := fun i hi => by rw [List.length_map, List.length_take]; omega
 rw [hTL]
 unfold LVal
 rw [hTL3]
 have HTL := Lib.hid hTL
 have HL := Lib.hid (And.intro hl (And.intro hL (And.intro hlk hf)))
 have HK := Lib.hid hlen
 clear hl hL hlk hf hTL hTL3 hm hlen
 go_enter Tryz.func53, Tryz.ntmps53
 go_wp2_with fail
 go_loopg [5, 10] (len + 1) (fun gk s5 s10 wx => ∃ (i : Nat) (Av : Option Addr) (cv : Nat), s5 = .slice Av i cv ∧ s10 = .int .i64 i ∧ i ≤ len ∧ len - i < gk ∧ Hid (LInv inE 51 (fun g => w.heap.size ≤ g) w (.slice Av i cv) ((xs.take i).map G) wx))
 case atStart => exact ⟨0, none, 0, rfl, rfl, by omega, by omega, Lib.hid LInv.start⟩
 case round =>
  obtain ⟨i, Av, cv, rfl, rfl, hi, hgk, HI⟩ := hrel
  by_cases hlt : i < len
  ·have hltz : (i : Int) < (len : Int) := by omega
   obtain ⟨gk', rfl⟩ : ∃ g', gk = g' + 1 := ⟨gk - 1, by omega⟩
   have HN := Lib.hid (And.intro (show i + 1 ≤ len from hlt) (show len - (i + 1) < gk' by omega))
   have hix : i < xs.length := by rw [HL.out.1]; exact hlt
   obtain ⟨g, off, t1, A1, l1, k1, K1, m1, n1, rfl, e0, e1, e2, hn1⟩ := nd_cells HL.out.2.1 HI.out.bel i hix
   have hbx : Below wr.heap.size wr (wr.alloc (.cells #[.int .u8 t1, .slice A1 l1 k1, .slice K1 m1 n1] 33)) := below_new _ _
   have hcall := HL.out.2.2.2 xs[i] (List.getElem_mem hix) _ (below_then HI.out.bel hbx (Nat.le_refl _)) _ _ _ (El.below (E := ndE) ⟨_, _, _, rfl, hn1⟩ hbx)
   have hnx : (xs.take i).map G ++ [G xs[i]] = (xs.take (i + 1)).map G := by rw [List.take_succ_eq_append_getElem hix, List.map_append, List.map_cons, List.map_nil]
   have hlk := HL.out.2.2.1 i hi
   have HC := Lib.hid hcall
   have HB := Lib.hid hbx
   clear hcall hbx hgk hn1
   go_wp2_with fail
   refine HC.out.mono ?_
   rintro e w2 ⟨A3, c3, rfl, hold, hb2⟩
   have h0 := HB.out.size
   have hwz := HI.out.bel.size
   have hb3 := below_then HB.out hb2 (Nat.le_refl _)
   have hk1000 := HK.out
   obtain ⟨A7, c7, w7, hrun, hI7⟩ := HI.out.push Tryz.infI (fun g hg => hg) (below_then hb3 (below_new w2 (.cells #[.slice A3 (G xs[i]).length c3] 51)) (Nat.le_refl _)) (x := G xs[i]) (news := [.slice A3 (G xs[i]).length c3]) (⟨_, rfl, A3, _, c3, rfl, hold.2.1, hold.2.2.1, hold.1.below (below_new _ _), fun hl g off sp e => (fun g (hg : (wr.alloc (.cells #[.int .u8 t1, .slice A1 l1 k1, .slice K1 m1 n1] 33)).heap.size ≤ g) => (⟨Nat.le_trans hwz (Nat.le_trans h0 hg), .inr (Nat.le_trans h0 hg)⟩ : w.heap.size ≤ g ∧ (g < w.heap.size ∨ wr.heap.size ≤ g))) g (by obtain ⟨b', off', e', _, _⟩ := hold.1.2.2 hl; have := (hold.2.2.2 b' off' e').1; rw [e'] at e; cases e; exact this)⟩) (g1 := w2.heap.size) hb3.size (heap_new_ _ _) (fun j u hu => by
    simpa using hu) (by rw [hlk]; omega) (by rw [hlk]; unfold maxLen; omega)
   rw [hlk] at hrun hI7
   rw [hnx] at hI7
   have HI7 := Lib.hid hI7
   clear hI7 hnx hlk e0 e1 e2 HC HB hb2 hb3 hold h0 hwz hk1000
   go_wp2_with (at_builtin; refine wpl_append rfl (.tmp 14) (.tmp 18) 23 rfl _ _ _ rfl rfl hrun ?_)
   clear hrun
   go_wp2
   go_roundg gk'
   case measure => omega
   case rel => exact ⟨i + 1, A7, c7, rfl, by go_num, HN.out.1, HN.out.2, HI7⟩
  ·obtain rfl : len = i := by omega
   have hltz : ¬ (len : Int) < (len : Int) := by omega
   obtain ⟨A2, c2, e2, h1, h2, hLn⟩ := HI.out.row.lst (fun g hg => hg)
   have hlk := HL.out.2.2.1 len (Nat.le_refl _)
   rw [hlk] at e2 h1
   simp only [Value.slice.injEq] at e2
   obtain ⟨rfl, _, rfl⟩ := e2
   rw [List.take_of_length_le (by rw [HL.out.1]; exact Nat.le_refl _), HTL.out] at hLn
   have HF := Lib.hid (And.intro HI.out.bel (And.intro h1 (And.intro h2 hLn)))
   clear h1 h2 hLn hgk hlk
   go_wp2
   go_ret
   exact ⟨HF.out.1, Av, cv, rfl, HF.out.2.1, HF.out.2.2.1, HF.out.2.2.2⟩
set_option maxRecDepth 100000 in
set_option maxHeartbeats 8000000 in
theorem eachNPr (B : Nat → Prop) (G : Nd → Pr) (f : FuncId) (q : Value) (A : Option Addr) (len cap : Nat) (xs : List (Nd)) (w : World) (hl : xs.length = len) (hL : Lst ndE B w A xs) (hc : len ≤ cap) (hm : cap ≤ maxLen) (hlen : len ≤ 1000)
 (hen : ∀ args w, (callFunc f args).run Tryz.prog w = .ok (.enter f args) w)
 (hf : ∀ x ∈ xs, ∀ (W : World), Below w.heap.size w W → ∀ c0 c1 c2 : Value, ndE.hold B W x [c0, c1, c2] → Calls Tryz.prog f #[.agg #[c0, c1, c2], q] W (PVal (fun g => W.heap.size ≤ g) W (G x))) :
 Calls Tryz.prog 61 #[.slice A len cap, .func (.func f) #[] #[q]] w (LVal prE (fun g => w.heap.size ≤ g) w (xs.map G)) := by
 have h9 : cap ≤ 9223372036854775807 := by unfold maxLen at hm; omega
 obtain ⟨TL, hTL⟩ : ∃ x, xs.map G = x := ⟨_, rfl⟩
 have hTL3 : TL.length = len := by rw [← hTL, List.length_map, hl]
 have hlk : ∀ i, i ≤ len → ((xs.take i).map G).length = i := fun i hi => by rw [List.length_map, List.length_take]; omega
 rw [hTL]
 unfold LVal
 rw [hTL3]
 have HTL := Lib.hid hTL
 have HL := Lib.hid (And.intro hl (And.intro hL (And.intro hlk hf)))
 have HK := Lib.hid hlen
 clear hl hL hlk hf hTL hTL3 hm hlen
 go_enter Tryz.func61, Tryz.ntmps61
 go_wp2_with fail
 go_loopg [5, 10] (len + 1) (fun gk s5 s10 wx => ∃ (i : Nat) (Av : Option Addr) (cv : Nat), s5 = .slice Av i cv ∧ s10 = .int .i64 i ∧ i ≤ len ∧ len - i < gk ∧ Hid (LInv prE 76 (fun g => w.heap.size ≤ g) w (.slice Av i cv) ((xs.take i).map G) wx))
 case atStart => exact ⟨0, none, 0, rfl, rfl, by omega, by omega, Lib.hid LInv.start⟩
 case round =>
  obtain ⟨i, Av, cv, rfl, rfl, hi, hgk, HI⟩ := hrel
  by_cases hlt : i < len
  ·have hltz : (i : Int) < (len : Int) := by omega
   obtain ⟨gk', rfl⟩ : ∃ g', gk = g' + 1 := ⟨gk - 1, by omega⟩
   have HN := Lib.hid (And.intro (show i + 1 ≤ len from hlt) (show len - (i + 1) < gk' by omega))
   have hix : i < xs.length := by rw [HL.out.1]; exact hlt
   obtain ⟨g, off, t1, A1, l1, k1, K1, m1, n1, rfl, e0, e1, e2, hn1⟩ := nd_cells HL.out.2.1 HI.out.bel i hix
   have hbx : Below wr.heap.size wr (wr.alloc (.cells #[.int .u8 t1, .slice A1 l1 k1, .slice K1 m1 n1] 33)) := below_new _ _
   have hcall := HL.out.2.2.2 xs[i] (List.getElem_mem hix) _ (below_then HI.out.bel hbx (Nat.le_refl _)) _ _ _ (El.below (E := ndE) ⟨_, _, _, rfl, hn1⟩ hbx)
   have hnx : (xs.take i).map G ++ [G xs[i]] = (xs.take (i + 1)).map G := by rw [List.take_succ_eq_append_getElem hix, List.map_append, List.map_cons, List.map_nil]
   have hlk := HL.out.2.2.1 i hi
   have HC := Lib.hid hcall
   have HB := Lib.hid hbx
   clear hcall hbx hgk hn1
   go_wp2_with fail
   refine HC.out.mono ?_
   rintro e w2 ⟨hb2, A3, c3, rfl, h31, h32, hold, h33⟩
   have h0 := HB.out.size
   have hwz := HI.out.bel.size
   have hb3 := below_then HB.out hb2 (Nat.le_refl _)
   have hk1000 := HK.out
   obtain ⟨A7, c7, w7, hrun, hI7⟩ := HI.out.push Tryz.infP (fun g hg => hg) (below_then hb3 (below_new w2 (.cells #[.string (G xs[i]).realm, .slice A3 (G xs[i]).names.length c3] 76)) (Nat.le_refl _)) (x := G xs[i]) (news := [.string (G xs[i]).realm, .slice A3 (G xs[i]).names.length c3]) (⟨_, _, rfl, A3, c3, rfl, rfl, h31, h32, (hold.below (below_new _ _)).mono (fun g hg => (fun g (hg : (wr.alloc (.cells #[.int .u8 t1, .slice A1 l1 k1, .slice K1 m1 n1] 33)).heap.size ≤ g) => (⟨Nat.le_trans hwz (Nat.le_trans h0 hg), .inr (Nat.le_trans h0 hg)⟩ : w.heap.size ≤ g ∧ (g < w.heap.size ∨ wr.heap.size ≤ g))) g hg), h33⟩) (g1 := w2.heap.size) hb3.size (heap_new_ _ _) (fun j u hu => by
    simpa using hu) (by rw [hlk]; omega) (by rw [hlk]; unfold maxLen; omega)
   rw [hlk] at hrun hI7
   rw [hnx] at hI7
   have HI7 := Lib.hid hI7
   clear hI7 hnx hlk e0 e1 e2 HC HB hb2 hb3 hold h0 hwz hk1000
   go_wp2_with (at_builtin; refine wpl_append rfl (.tmp 14) (.tmp 18) 24 rfl _ _ _ rfl rfl hrun ?_)
   clear hrun
   go_wp2
   go_roundg gk'
   case measure => omega
   case rel => exact ⟨i + 1, A7, c7, rfl, by go_num, HN.out.1, HN.out.2, HI7⟩
  ·obtain rfl : len = i := by omega
   have hltz : ¬ (len : Int) < (len : Int) := by omega
   obtain ⟨A2, c2, e2, h1, h2, hLn⟩ := HI.out.row.lst (fun g hg => hg)
   have hlk := HL.out.2.2.1 len (Nat.le_refl _)
   rw [hlk] at e2 h1
   simp only [Value.slice.injEq] at e2
   obtain ⟨rfl, _, rfl⟩ := e2
   rw [List.take_of_length_le (by rw [HL.out.1]; exact Nat.le_refl _), HTL.out] at hLn
   have HF := Lib.hid (And.intro HI.out.bel (And.intro h1 (And.intro h2 hLn)))
   clear h1 h2 hLn hgk hlk
   go_wp2
   go_ret
   exact ⟨HF.out.1, Av, cv, rfl, HF.out.2.1, HF.out.2.2.1, HF.out.2.2.2⟩
set_option maxRecDepth 100000 in
set_option maxHeartbeats 8000000 in
theorem eachNNm (B : Nat → Prop) (G : Nd → List At) (f : FuncId) (q : Value) (A : Option Addr) (len cap : Nat) (xs : List (Nd)) (w : World) (hl : xs.length = len) (hL : Lst ndE B w A xs) (hc : len ≤ cap) (hm : cap ≤ maxLen) (hlen : len ≤ 1000)
 (hen : ∀ args w, (callFunc f args).run Tryz.prog w = .ok (.enter f args) w)
 (hf : ∀ x ∈ xs, ∀ (W : World), Below w.heap.size w W → ∀ c0 c1 c2 : Value, ndE.hold B W x [c0, c1, c2] → Calls Tryz.prog f #[.agg #[c0, c1, c2], q] W (LVal atE (fun g => W.heap.size ≤ g) W (G x))) :
 Calls Tryz.prog 69 #[.slice A len cap, .func (.func f) #[] #[q]] w (LVal nmE (fun g => w.heap.size ≤ g) w (xs.map G)) := by
 have h9 : cap ≤ 9223372036854775807 := by unfold maxLen at hm; omega
 obtain ⟨TL, hTL⟩ : ∃ x, xs.map G = x := ⟨_, rfl⟩
 have hTL3 : TL.length = len := by rw [← hTL, List.length_map, hl]
 have hlk : ∀ i, i ≤ len → ((xs.take i).map G).length = i := fun i hi => by rw [List.length_map, List.length_take]; omega
 rw [hTL]
 unfold LVal
 rw [hTL3]
 have HTL := Lib.hid hTL
 have HL := Lib.hid (And.intro hl (And.intro hL (And.intro hlk hf)))
 have HK := Lib.hid hlen
 clear hl hL hlk hf hTL hTL3 hm hlen
 go_enter Tryz.func69, Tryz.ntmps69
 go_wp2_with fail
 go_loopg [5, 10] (len + 1) (fun gk s5 s10 wx => ∃ (i : Nat) (Av : Option Addr) (cv : Nat), s5 = .slice Av i cv ∧ s10 = .int .i64 i ∧ i ≤ len ∧ len - i < gk ∧ Hid (LInv nmE 79 (fun g => w.heap.size ≤ g) w (.slice Av i cv) ((xs.take i).map G) wx))
 case atStart => exact ⟨0, none, 0, rfl, rfl, by omega, by omega, Lib.hid LInv.start⟩
 case round =>
  obtain ⟨i, Av, cv, rfl, rfl, hi, hgk, HI⟩ := hrel
  by_cases hlt : i < len
  ·have hltz : (i : Int) < (len : Int) := by omega
   obtain ⟨gk', rfl⟩ : ∃ g', gk = g' + 1 := ⟨gk - 1, by omega⟩
   have HN := Lib.hid (And.intro (show i + 1 ≤ len from hlt) (show len - (i + 1) < gk' by omega))
   have hix : i < xs.length := by rw [HL.out.1]; exact hlt
   obtain ⟨g, off, t1, A1, l1, k1, K1, m1, n1, rfl, e0, e1, e2, hn1⟩ := nd_cells HL.out.2.1 HI.out.bel i hix
   have hbx : Below wr.heap.size wr (wr.alloc (.cells #[.int .u8 t1, .slice A1 l1 k1, .slice K1 m1 n1] 33)) := below_new _ _
   have hcall := HL.out.2.2.2 xs[i] (List.getElem_mem hix) _ (below_then HI.out.bel hbx (Nat.le_refl _)) _ _ _ (El.below (E := ndE) ⟨_, _, _, rfl, hn1⟩ hbx)
   have hnx : (xs.take i).map G ++ [G xs[i]] = (xs.take (i + 1)).map G := by rw [List.take_succ_eq_append_getElem hix, List.map_append, List.map_cons, List.map_nil]
   have hlk := HL.out.2.2.1 i hi
   have HC := Lib.hid hcall
   have HB := Lib.hid hbx
   clear hcall hbx hgk hn1
   go_wp2_with fail
   refine HC.out.mono ?_
   rintro e w2 ⟨hb2, A3, c3, rfl, h31, h32, hold⟩
   have h0 := HB.out.size
   have hwz := HI.out.bel.size
   have hb3 := below_then HB.out hb2 (Nat.le_refl _)
   have hk1000 := HK.out
   obtain ⟨A7, c7, w7, hrun, hI7⟩ := HI.out.push Tryz.infNm (fun g hg => hg) (below_then hb3 (below_new w2 (.cells #[.slice A3 (G xs[i]).length c3] 79)) (Nat.le_refl _)) (x := G xs[i]) (news := [.slice A3 (G xs[i]).length c3]) (⟨_, rfl, A3, c3, rfl, h31, h32, (hold.below (below_new _ _)).mono (fun g hg => (fun g (hg : (wr.alloc (.cells #[.int .u8 t1, .slice A1 l1 k1, .slice K1 m1 n1] 33)).heap.size ≤ g) => (⟨Nat.le_trans hwz (Nat.le_trans h0 hg), .inr (Nat.le_trans h0 hg)⟩ : w.heap.size ≤ g ∧ (g < w.heap.size ∨ wr.heap.size ≤ g))) g hg)⟩) (g1 := w2.heap.size) hb3.size (heap_new_ _ _) (fun j u hu => by
    simpa using hu) (by rw [hlk]; omega) (by rw [hlk]; unfold maxLen; omega)
   rw [hlk] at hrun hI7
   rw [hnx] at hI7
   have HI7 := Lib.hid hI7
   clear hI7 hnx hlk e0 e1 e2 HC HB hb2 hb3 hold h0 hwz hk1000
   go_wp2_with (at_builtin; refine wpl_append rfl (.tmp 14) (.tmp 18) 25 rfl _ _ _ rfl rfl hrun ?_)
   clear hrun
   go_wp2
   go_roundg gk'
   case measure => omega
   case rel => exact ⟨i + 1, A7, c7, rfl, by go_num, HN.out.1, HN.out.2, HI7⟩
  ·obtain rfl : len = i := by omega
   have hltz : ¬ (len : Int) < (len : Int) := by omega
   obtain ⟨A2, c2, e2, h1, h2, hLn⟩ := HI.out.row.lst (fun g hg => hg)
   have hlk := HL.out.2.2.1 len (Nat.le_refl _)
   rw [hlk] at e2 h1
   simp only [Value.slice.injEq] at e2
   obtain ⟨rfl, _, rfl⟩ := e2
   rw [List.take_of_length_le (by rw [HL.out.1]; exact Nat.le_refl _), HTL.out] at hLn
   have HF := Lib.hid (And.intro HI.out.bel (And.intro h1 (And.intro h2 hLn)))
   clear h1 h2 hLn hgk hlk
   go_wp2
   go_ret
   exact ⟨HF.out.1, Av, cv, rfl, HF.out.2.1, HF.out.2.2.1, HF.out.2.2.2⟩
set_option maxRecDepth 100000 in
set_option maxHeartbeats 8000000 in
theorem eachNOd (B : Nat → Prop) (G : Nd → Od) (f : FuncId) (A : Option Addr) (len cap : Nat) (xs : List (Nd)) (w : World) (hl : xs.length = len) (hL : Lst ndE B w A xs) (hc : len ≤ cap) (hm : cap ≤ maxLen) (hlen : len ≤ 1000)
 (hen : ∀ args w, (callFunc f args).run Tryz.prog w = .ok (.enter f args) w)
 (hf : ∀ x ∈ xs, ∀ (W : World), Below w.heap.size w W → ∀ c0 c1 c2 : Value, ndE.hold B W x [c0, c1, c2] → Calls Tryz.prog f #[.agg #[c0, c1, c2]] W (OVal (fun g => W.heap.size ≤ g) W (G x))) :
 Calls Tryz.prog 94 #[.slice A len cap, .func (.func f) #[] #[]] w (LVal odE (fun g => w.heap.size ≤ g) w (xs.map G)) := by
 have h9 : cap ≤ 9223372036854775807 := by unfold maxLen at hm; omega
 obtain ⟨TL, hTL⟩ : ∃ x, xs.map G = x := ⟨_, rfl⟩
 have hTL3 : TL.length = len := by rw [← hTL, List.length_map, hl]
 have hlk : ∀ i, i ≤ len → ((xs.take i).map G).length = i := fun i hi => by rw [List.length_map, List.length_take]; omega
 rw [hTL]
 unfold LVal
 rw [hTL3]
 have HTL := Lib.hid hTL
 have HL := Lib.hid (And.intro hl (And.intro hL (And.intro hlk hf)))
 have HK := Lib.hid hlen
 clear hl hL hlk hf hTL hTL3 hm hlen
 go_enter Tryz.func94, Tryz.ntmps94
 go_wp2_with fail
 go_loopg [5, 10] (len + 1) (fun gk s5 s10 wx => ∃ (i : Nat) (Av : Option Addr) (cv : Nat), s5 = .slice Av i cv ∧ s10 = .int .i64 i ∧ i ≤ len ∧ len - i < gk ∧ Hid (LInv odE 60 (fun g => w.heap.size ≤ g) w (.slice Av i cv) ((xs.take i).map G) wx))
 case atStart => exact ⟨0, none, 0, rfl, rfl, by omega, by omega, Lib.hid LInv.start⟩
 case round =>
  obtain ⟨i, Av, cv, rfl, rfl, hi, hgk, HI⟩ := hrel
  by_cases hlt : i < len
  ·have hltz : (i : Int) < (len : Int) := by omega
   obtain ⟨gk', rfl⟩ : ∃ g', gk = g' + 1 := ⟨gk - 1, by omega⟩
   have HN := Lib.hid (And.intro (show i + 1 ≤ len from hlt) (show len - (i + 1) < gk' by omega))
   have hix : i < xs.length := by rw [HL.out.1]; exact hlt
   obtain ⟨g, off, t1, A1, l1, k1, K1, m1, n1, rfl, e0, e1, e2, hn1⟩ := nd_cells HL.out.2.1 HI.out.bel i hix
   have hbx : Below wr.heap.size wr (wr.alloc (.cells #[.int .u8 t1, .slice A1 l1 k1, .slice K1 m1 n1] 33)) := below_new _ _
   have hcall := HL.out.2.2.2 xs[i] (List.getElem_mem hix) _ (below_then HI.out.bel hbx (Nat.le_refl _)) _ _ _ (El.below (E := ndE) ⟨_, _, _, rfl, hn1⟩ hbx)
   have hnx : (xs.take i).map G ++ [G xs[i]] = (xs.take (i + 1)).map G := by rw [List.take_succ_eq_append_getElem hix, List.map_append, List.map_cons, List.map_nil]
   have hlk := HL.out.2.2.1 i hi
   have HC := Lib.hid hcall
   have HB := Lib.hid hbx
   clear hcall hbx hgk hn1
   go_wp2_with fail
   refine HC.out.mono ?_
   rintro e w2 ⟨hb2, A3, l3, c3, B3, m3, n3, rfl, hold⟩
   have h0 := HB.out.size
   have hwz := HI.out.bel.size
   have hb3 := below_then HB.out hb2 (Nat.le_refl _)
   have hk1000 := HK.out
   obtain ⟨A7, c7, w7, hrun, hI7⟩ := HI.out.push Tryz.infO (fun g hg => hg) (below_then hb3 (below_new w2 (.cells #[.slice A3 l3 c3, .bool (G xs[i]).crit, .slice B3 m3 n3] 60)) (Nat.le_refl _)) (x := G xs[i]) (news := [.slice A3 l3 c3, .bool (G xs[i]).crit, .slice B3 m3 n3]) (⟨_, _, _, rfl, OdC.mono (fun g hg => (fun g (hg : (wr.alloc (.cells #[.int .u8 t1, .slice A1 l1 k1, .slice K1 m1 n1] 33)).heap.size ≤ g) => (⟨Nat.le_trans hwz (Nat.le_trans h0 hg), .inr (Nat.le_trans h0 hg)⟩ : w.heap.size ≤ g ∧ (g < w.heap.size ∨ wr.heap.size ≤ g))) g hg) (hold.below (below_new _ _))⟩) (g1 := w2.heap.size) hb3.size (heap_new_ _ _) (fun j u hu => by
    simpa using hu) (by rw [hlk]; omega) (by rw [hlk]; unfold maxLen; omega)
   rw [hlk] at hrun hI7
   rw [hnx] at hI7
   have HI7 := Lib.hid hI7
   clear hI7 hnx hlk e0 e1 e2 HC HB hb2 hb3 hold h0 hwz hk1000
   go_wp2_with (at_builtin; refine wpl_append rfl (.tmp 14) (.tmp 18) 26 rfl _ _ _ rfl rfl hrun ?_)
   clear hrun
   go_wp2
   go_roundg gk'
   case measure => omega
   case rel => exact ⟨i + 1, A7, c7, rfl, by go_num, HN.out.1, HN.out.2, HI7⟩
  ·obtain rfl : len = i := by omega
   have hltz : ¬ (len : Int) < (len : Int) := by omega
   obtain ⟨A2, c2, e2, h1, h2, hLn⟩ := HI.out.row.lst (fun g hg => hg)
   have hlk := HL.out.2.2.1 len (Nat.le_refl _)
   rw [hlk] at e2 h1
   simp only [Value.slice.injEq] at e2
   obtain ⟨rfl, _, rfl⟩ := e2
   rw [List.take_of_length_le (by rw [HL.out.1]; exact Nat.le_refl _), HTL.out] at hLn
   have HF := Lib.hid (And.intro HI.out.bel (And.intro h1 (And.intro h2 hLn)))
   clear h1 h2 hLn hgk hlk
   go_wp2
   go_ret
   exact ⟨HF.out.1, Av, cv, rfl, HF.out.2.1, HF.out.2.2.1, HF.out.2.2.2⟩
end Go.Proofs.YtdcpggodlggjjaaGreatDoor.nmc
