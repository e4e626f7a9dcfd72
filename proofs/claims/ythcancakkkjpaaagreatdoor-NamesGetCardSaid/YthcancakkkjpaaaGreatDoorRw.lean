/- What the program tells of a node's kids: its closures, and partsOf. -/
import Derived.Test.YthcancakkkjpaaaGreatDoorRv
import Derived.Test.YthcancakkkjpaaaGreatDoorRk
import Derived.Deep.RegionHeld3
namespace Go.Proofs.YthcancakkkjpaaaGreatDoor.nmc
open Go.RowKit Go.Proofs.YthcancakkkjpaaaGreatDoor.tlvc Go.Proofs.YthcancakkkjpaaaGreatDoor.tlvd Go.Proofs.YthcancakkkjpaaaGreatDoor.ndc Go.Proofs.YthcancakkkjpaaaGreatDoor.txc Go.Proofs.YthcancakkkjpaaaGreatDoor.txm Go.Proofs.YthcancakkkjpaaaGreatDoor.intc Go.Proofs.YthcancakkkjpaaaGreatDoor.intm
set_option linter.unusedVariables false
set_option linter.unusedSimpArgs false
theorem Tryz.infoAttr2 : (Tryz.prog.info? 43).map (fun i => (i.zero, i.size, i.bytes)) = some (some (.agg #[.slice none 0 0, .string ⟨#[]⟩]), 2, 40) := by kernel_rfl
theorem Tryz.infoStr : (Tryz.prog.info? 9).map (fun i => (i.zero, i.size, i.bytes)) = some (some (.string ⟨#[]⟩), 1, 16) := by kernel_rfl
theorem Tryz.infAs : Inf Tryz.prog 28 43 atE.sz 40 := by
  obtain ⟨i0, hi, hz0, hz1, hz2⟩ := info_parts Tryz.infoAttr2
  exact ⟨Tryz.underlying28, i0, _, hi, hz0, hz1, hz2, rfl⟩
theorem Tryz.infS : Inf Tryz.prog 33 9 stE.sz 16 := by
  obtain ⟨i0, hi, hz0, hz1, hz2⟩ := info_parts Tryz.infoStr
  exact ⟨Tryz.underlying33, i0, _, hi, hz0, hz1, hz2, rfl⟩
theorem body_size {B : Nat → Prop} {w : World} {n : Nd} {t : Int} {A : Option Addr} {la ca : Nat} {K : Option Addr} {lk ck : Nat} (h : NdC B w n (.int .u8 t) (.slice A la ca) (.slice K lk ck)) : la ≤ ca ∧ ca ≤ maxLen ∧ Bys w A la n.body ∧ n.body.length = la := by
  obtain ⟨t', b, ks⟩ := n
  obtain ⟨_, _, ⟨A', la', ca', e, h1, h2, h3, _⟩, _⟩ := NdC.kidsL h
  simp only [Value.slice.injEq] at e
  obtain ⟨rfl, rfl, rfl⟩ := e
  exact ⟨h1, h2, h3, h3.1⟩
set_option maxRecDepth 100000 in
set_option maxHeartbeats 4000000 in
theorem bodyText_any (B : Nat → Prop) (n : Nd) (c0 c1 c2 : Value) (w : World) (hn : NdC B w n c0 c1 c2) :
    Calls Tryz.prog 26 #[.agg #[c0, c1, c2]] w fun e w' => e = .returned (.string (strOfNums n.body)) ∧ (strOfNums n.body).size ≤ maxLen ∧ Below w.heap.size w w' := by
  obtain ⟨t, A, la, ca, K, lk, ck, rfl, rfl, rfl⟩ := hn.shape
  obtain ⟨h1, h2, h3, h4⟩ := body_size hn
  obtain ⟨W0, hW0⟩ : ∃ x, w.alloc (.cells #[.int .u8 t, .slice A la ca, .slice K lk ck] 25) = x := ⟨_, rfl⟩
  have hb0 : Below w.heap.size w W0 := by rw [← hW0]; exact below_new _ _
  have q0 : W0.heap[w.heap.size]? = some (.cells #[.int .u8 t, .slice A la ca, .slice K lk ck] 25) := by rw [← hW0]; exact heap_new_ _ _
  obtain ⟨x0, x1, x2⟩ := box_nd (Below.refl _ W0) q0
  have hcv := intc.str_now (h3.below hb0) ca
  have hz : (strOfNums n.body).size ≤ maxLen := by rw [strOfNums_size, h4]; exact Nat.le_trans h1 h2
  obtain ⟨S, hS⟩ : ∃ x, strOfNums n.body = x := ⟨_, rfl⟩
  rw [hS] at hcv hz ⊢
  have HB := Lib.hid (And.intro hb0 hz)
  clear hb0 q0 hz hS h1 h2 h3 h4 hn
  go_enter Tryz.func26, Tryz.ntmps26
  go_wp2
  go_ret
  exact ⟨rfl, HB.out.2, HB.out.1⟩
theorem fld1 (t : Int) (A : Option Addr) (l k : Nat) (K : Option Addr) (m n : Nat) (w : World) : (Instr.field 25 (.agg #[.int .u8 t, .slice A l k, .slice K m n]) 1).run Tryz.prog w = .ok (.slice A l k) w := by kernel_rfl
/-- A part of a name that a call tells. -/
def APost (w : World) (a : At) (e : Ending) (w' : World) : Prop := ∃ A l c s, e = .returned (.agg #[.slice A l c, .string s]) ∧ atE.hold (fun _ => True) w' a [.slice A l c, .string s] ∧ Below w.heap.size w w'
set_option maxRecDepth 100000 in
set_option maxHeartbeats 8000000 in
theorem attrOf_any (B : Nat → Prop) (n : Nd) (c0 c1 c2 : Value) (w : World) (hn : NdC B w n c0 c1 c2) :
    Calls Tryz.prog 17 #[.agg #[c0, c1, c2]] w fun e w' => APost w (toldA n) e w' ∧ ∀ A l c s, e = .returned (.agg #[.slice A l c, .string s]) → 0 < l → ∀ g off sp, A = some ⟨g, off, sp⟩ → w.heap.size ≤ g := by
  obtain ⟨t, A, la, ca, K, lk, ck, rfl, rfl, rfl⟩ := hn.shape
  obtain ⟨W0, hW0⟩ : ∃ x, (w.alloc (.cells #[.int .u8 t, .slice A la ca, .slice K lk ck] 25)).alloc (.cells #[.slice none 0 0, .string ⟨#[]⟩] 43) = x := ⟨_, rfl⟩
  have hb0 : Below w.heap.size w W0 := by rw [← hW0]; exact (below_new _ _).alloc (by simp) _
  have hz0 : W0.heap.size = w.heap.size + 2 := by rw [← hW0]; simp
  have p0 : W0.heap[w.heap.size + 1]? = some (.cells #[.slice none 0 0, .string ⟨#[]⟩] 43) := by rw [← hW0]; exact heap_is (by simp)
  have q0 : W0.heap[w.heap.size]? = some (.cells #[.int .u8 t, .slice A la ca, .slice K lk ck] 25) := by rw [← hW0, heap_old_ _ _ (by simp)]; exact heap_new_ _ _
  obtain ⟨x0, x1, x2⟩ := box_nd (Below.refl _ W0) q0
  have hk0 := kidAt_any B n 0 _ _ _ W0 (NdC.below hb0 _ _ _ _ hn) (by omega)
  have hk1 := fun W (hW : Below W0.heap.size W0 W) => kidAt_any B n 1 _ _ _ W (NdC.below (below_then hb0 hW (Nat.le_refl _)) _ _ _ _ hn) (by omega)
  have hbx := fun W (hW : Below W0.heap.size W0 W) => box_nd hW q0
  have HK0 := Lib.hid hk0
  have HK1 := Lib.hid hk1
  have HX := Lib.hid hbx
  have HB := Lib.hid (And.intro hb0 (And.intro p0 hz0))
  clear hk0 hk1 hbx hb0 p0 q0 hz0 hn
  go_enter Tryz.func17, Tryz.ntmps17
  go_wp2_with fail
  refine HK0.out.mono ?_
  rintro e w1 ⟨hb1, t1, A1, l1, k1, K1, m1, n1, rfl, hn1⟩
  obtain ⟨h1, h2, h3, h4⟩ := body_size hn1
  have hoid := oid_any A1 l1 k1 _ w1 h3 h1 h2
  have HO := Lib.hid hoid
  have HB1 := Lib.hid hb1
  have hfd := fld1 t1 A1 l1 k1 K1 m1 n1
  clear hoid hb1 hn1 h3 h4 h1 h2 HK0 x0 x1 x2
  go_wp2_with fail
  refine HO.out.mono ?_
  rintro e w2 ⟨A2, c2, rfl, hh, hb2⟩
  have hb2 := below_then HB1.out hb2 (Nat.le_refl _)
  obtain ⟨x0, x1, x2⟩ := HX.out w2 hb2
  have HH := Lib.hid hh
  have HC := Lib.hid (HK1.out w2 hb2)
  have HB2 := Lib.hid hb2
  clear hh hb2 HO HK1
  go_wp2_with fail
  refine HC.out.mono ?_
  rintro e w3 ⟨hb3, t3, A3, l3, k3, K3, m3, n3, rfl, hn3⟩
  obtain ⟨h1, h2, h3, h4⟩ := body_size hn3
  have hcv := intc.str_now h3 k3
  have hz : (strOfNums (kidF n 1).body).size ≤ maxLen := by rw [strOfNums_size, h4]; exact Nat.le_trans h1 h2
  obtain ⟨S, hS⟩ : ∃ x, strOfNums (kidF n 1).body = x := ⟨_, rfl⟩
  have htold : toldA n = ⟨(oidF (kidF n 0).body).1, S⟩ := by rw [← hS]; rfl
  rw [hS] at hcv hz
  have hb3' := below_then HB2.out hb3 (Nat.le_refl _)
  have p3 := (hb3'.block _ (Array.getElem?_eq_some_iff.1 HB.out.2.1).1).trans HB.out.2.1
  have hbw := below_then HB.out.1 hb3' (Nat.le_refl _)
  obtain ⟨ys, hys⟩ : ∃ x, (oidF (kidF n 0).body).1 = x := ⟨_, rfl⟩
  rw [hys] at htold
  have HH2 := Lib.hid (show intc.IHere w1.heap.size A2 c2 ys w2 by rw [← hys]; exact HH.out)
  have HL := Lib.hid (congrArg List.length hys)
  have hset : ((w3.setCell ⟨w.heap.size + 1, 0, none⟩ (.slice A2 ys.length c2)).setCell ⟨w.heap.size + 1, 1, none⟩ (.string S)).heap[w.heap.size + 1]? = some (.cells #[.slice A2 ys.length c2, .string S] 43) := set_heap _ _ 1 _ _ _ _ (set_heap _ _ 0 _ _ _ _ p3)
  have r0 := (Lib.cell_of_heap hset 0).trans rfl
  have r1 := (Lib.cell_of_heap hset 1).trans rfl
  have hB : Below w.heap.size w ((w3.setCell ⟨w.heap.size + 1, 0, none⟩ (.slice A2 ys.length c2)).setCell ⟨w.heap.size + 1, 1, none⟩ (.string S)) := (hbw.setCell (p := ⟨w.heap.size + 1, 0, none⟩) (Nat.le_succ _) _).setCell (p := ⟨w.heap.size + 1, 1, none⟩) (Nat.le_succ _) _
  have hwl := HB1.out.size
  have hz0 := HB.out.2.2
  have hfr : 0 < ys.length → ∀ g off sp, A2 = some ⟨g, off, sp⟩ → w.heap.size + 2 ≤ g := fun hn g off sp e => by
    obtain ⟨b', off', e', hb', _⟩ := HH2.out.1.2.2 hn
    have := HH2.out.2.2.2 b' off' e'
    rw [e'] at e; cases e; omega
  have hins : Ins ((w3.setCell ⟨w.heap.size + 1, 0, none⟩ (.slice A2 ys.length c2)).setCell ⟨w.heap.size + 1, 1, none⟩ (.string S)) A2 ys.length ys := ins_stays (S := fun g => w.heap.size + 2 ≤ g) ⟨by rw [set_size, set_size]; exact Nat.le_refl _, fun p hp _ => cell_same (by rw [set_heap_other _ _ _ _ _ (by have hp : w.heap.size + 2 ≤ p.block := hp; omega), set_heap_other _ _ _ _ _ (by have hp : w.heap.size + 2 ≤ p.block := hp; omega)])⟩ (HH2.out.1.below hb3) hfr
  have HE := Lib.hid (And.intro hB (And.intro hins (And.intro hz hfr)))
  have f0 := Lib.frozen_of_heap p3 0
  have f1 := Lib.frozen_of_heap p3 1
  have s0 := (Lib.cell_of_heap p3 0).trans rfl
  have s1 := (Lib.cell_of_heap p3 1).trans rfl
  have HT := Lib.hid htold
  have hfd3 := fld1 t3 A3 l3 k3 K3 m3 n3
  rw [hys] 
  clear hS htold hz hb3' hb3 hbw p3 hset hB hwl hz0 hfr hins hn3 h1 h2 h3 h4 hys HC HB HB1 HB2 HX HH
  go_wp2_with fail
  refine bodyPost_ret (v := .agg #[.slice A2 ys.length c2, .string S]) ?_ rfl ⟨⟨A2, ys.length, c2, S, rfl, ?_, HE.out.1⟩, ?_⟩
  · simp [results, Tryz.results17, go_sem, r0, r1]
  · rw [HT.out]
    exact ⟨_, _, rfl, A2, ys.length, c2, rfl, rfl, HH2.out.2.1, HH2.out.2.2.1, HE.out.2.1, fun _ _ _ _ _ => trivial, HE.out.2.2.1⟩
  · intro A' l' c' s' e hl g off sp eA
    simp only [Ending.returned.injEq, Value.agg.injEq, Array.mk.injEq, List.cons.injEq, Value.slice.injEq, and_true] at e
    obtain ⟨⟨rfl, rfl, rfl⟩, _⟩ := e
    have := HE.out.2.2.2 hl g off sp eA
    omega
end Go.Proofs.YthcancakkkjpaaaGreatDoor.nmc
