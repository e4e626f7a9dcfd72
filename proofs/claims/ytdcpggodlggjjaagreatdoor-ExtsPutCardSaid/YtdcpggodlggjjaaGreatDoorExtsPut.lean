/- The law ExtsPut of warderlaw10 answers true for any extensio -/
import Derived.Test.YtdcpggodlggjjaaGreatDoorYj
import Derived.Test.YtdcpggodlggjjaaGreatDoorYh
import Derived.Test.YtdcpggodlggjjaaGreatDoorAt
import Derived.Test.YtdcpggodlggjjaaGreatDoorBd
import Derived.Test.YtdcpggodlggjjaaGreatDoorBb
import Derived.Test.YtdcpggodlggjjaaGreatDoorCards
import Derived.Test.YtdcpggodlggjjaaGreatDoorTie
import Derived.WalkKit
import Derived.ProofKit
import Derived.OpenShut
import Derived.ChangeOld
import Derived.Below
import Derived.SizedLaws
import Derived.Test.YtdcpggodlggjjaaGreatDoorKb
import Derived.Test.YtdcpggodlggjjaaGreatDoorXc
import Derived.Laws.EntriesVeiled
set_option maxRecDepth 100000
set_option maxHeartbeats 32000000
set_option linter.unusedVariables false
set_option linter.unusedSimpArgs false
namespace Go.Proofs.YtdcpggodlggjjaaGreatDoor.nmc
open Go.RowKit tlvc tlvd ndc txc txm intc intm
end Go.Proofs.YtdcpggodlggjjaaGreatDoor.nmc
namespace Go.Proofs.YtdcpggodlggjjaaGreatDoor.nmc
open Go.RowKit tlvc tlvd ndc txc txm intc intm
structure PInv (w4 : World) (b : Nat) (s : ByteArray) (v : Value) (xs : List ByteArray) (wx : World) : Prop where
 at_ : b = w4.heap.size
 bel : Below w4.heap.size w4 wx
 box : wx.heap[b]? = some (.cells #[.string s, v] 76)
 row : GRow stE 9 (b + 1) (fun g => b + 1 ≤ g) wx v xs
theorem PInv.start (w4 : World) (s : ByteArray) : PInv w4 w4.heap.size s (.slice none 0 0) [] (w4.alloc (.cells #[.string s, .slice none 0 0] 76)) := ⟨rfl, below_new _ _, heap_new_ _ _, GRow.nil⟩
theorem PInv.below {w4 : World} {b : Nat} {s : ByteArray} {v : Value} {xs : List ByteArray} {wx w' : World} (h : PInv w4 b s v xs wx) (hb : Below wx.heap.size wx w') : PInv w4 b s v xs w' :=
 ⟨h.at_, below_then h.bel hb (lr_ _), (hb.block _ (Array.getElem?_eq_some_iff.1 h.box).1).trans h.box, h.row.below (fun g hg => hg) hb⟩
theorem PInv.push {w4 : World} {b : Nat} {s : ByteArray} {v : Value} {xs : List ByteArray} {wx : World} (h : PInv w4 b s v xs wx) (x : ByteArray) (hx : x.size ≤ maxLen) (hn : (xs.length + 1) * 16 ≤ 140737488355328) (hm : xs.length + 1 ≤ maxLen) :
 ∃ A c w7, (Builtin.append_ #[74, 74] 74 #[v, .slice (some ⟨wx.heap.size, 0, none⟩) 1 1]).run Tryz.prog (wx.alloc (.cells #[.string x] 9)) = .ok (.slice A (xs.length + 1) c) w7 ∧ w7.heap[b]? = some (.cells #[.string s, v] 76) ∧ PInv w4 b s (.slice A (xs.length + 1) c) (xs ++ [x]) (w7.setCell ⟨b, 1, none⟩ (.slice A (xs.length + 1) c)) := by
 have h' := h.below (below_new wx (.cells #[.string x] 9))
 have hbl := (Array.getElem?_eq_some_iff.1 h.box).1
 have hown := h.row.lt
 have hsz : wx.heap.size < (wx.alloc (.cells #[.string x] 9)).heap.size := by simp
 have hg1 : (wx.alloc (.cells #[.string x] 9)).heap[wx.heap.size]? = some (.cells #[.string x] 9) := heap_new_ _ _
 have ne : some wx.heap.size ≠ v.ownBlock := fun e => by have := (hown _ e.symm).2; omega
 obtain ⟨v', w2, hr, hrow, hgr⟩ := h'.row.app Tryz.infS (fun g hg => hg) 74 (g := wx.heap.size) (off := 0) (c := 1) (x := x) (news := [.string x]) ⟨by omega, hsz, ne⟩
  (fun j u hu => by rw [Nat.zero_add, ch_ hg1]; simpa using hu)
  ⟨rfl, hx⟩ hn hm (by omega)
 obtain ⟨A, c, rfl, hc1, hc2⟩ := hrow.shape
 rw [show (xs ++ [x]).length = xs.length + 1 by simp] at hr hrow
 have hlow := h'.bel.size
 have hat := h.at_
 have hbel := h'.bel.grown hgr hlow (fun j hj => by have := (hown j hj).1; omega)
 have hkeep : Below (b + 1) (wx.alloc (.cells #[.string x] 9)) w2 := (br_ (b + 1) _).grown hgr (by omega) (fun j hj => (hown j hj).1)
 have hbox2 := (hkeep.block b (by omega)).trans h'.box
 refine ⟨A, c, w2, hr, hbox2, hat, hbel.setCell (p := ⟨b, 1, none⟩) (by show w4.heap.size ≤ b; omega) _, set_heap _ _ 1 _ _ _ _ hbox2, ?_⟩
 refine hrow.keep (fun g hg => hg) (by rw [set_size]; exact lr_ _) (fun g hg hgY => set_heap_other _ _ _ _ _ (by omega))
end Go.Proofs.YtdcpggodlggjjaaGreatDoor.nmc
namespace Go.Proofs.YtdcpggodlggjjaaGreatDoor.nmc
open Go.RowKit tlvc tlvd ndc txc txm intc intm
def exZ (h c : Bool) (p u : Int) : Ex := ⟨h, c, p, u, [], [], [], [], []⟩
theorem exZ_cells (S : Nat → Prop) (w : World) (h c : Bool) (p u : Int) (hp : -9223372036854775808 ≤ p ∧ p ≤ 9223372036854775807) (hu : 0 ≤ u ∧ u ≤ 65535) : ExC S w (exZ h c p u) (.bool h) (.bool c) (.int .i64 p) (.int .u16 u) (.slice none 0 0) (.slice none 0 0) (.slice none 0 0) (.slice none 0 0) (.slice none 0 0) :=
 ⟨rfl, rfl, rfl, hp, rfl, hu, LsC.nil, LsC.nil, LsC.nil, LsC.nil, LsC.nil⟩
theorem exZ_right (h c : Bool) (p u : Int) : rightX (exZ h c p u) = (if c = true then h && decide (-1 ≤ p) && decide (p ≤ 100) else decide (p = 0)) := by
 unfold rightX boundedX exZ
 simp [partX, oddsX]
theorem exZ_put (h c : Bool) (p u : Int) (hu : 0 ≤ u ∧ u ≤ 65535) : putX (exZ h c p u) = if (if c = true then h && decide (-1 ≤ p) && decide (p ≤ 100) else decide (p = 0)) = true then some (nodeX (exZ h c p u)) else none := by
 rw [putX_right hu, exZ_right]
theorem exZ_kids (h c : Bool) (p u : Int) : (nodeX (exZ h c p u)).kids.length = (if h = true then 1 else 0) + (if u = 0 then 0 else 1) := by
 have e1 : decide (u ≠ 0) = !decide (u = 0) := by simp
 unfold nodeX exZ knownN ks5
 cases h <;> by_cases hu : u = 0 <;> simp [kthere, hu, Nd.kids, List.filter]
theorem nd_len {S : Nat → Prop} {w : World} {n : Nd} {c0 c1 : Value} {K : Option Addr} {lk ck : Nat} (h : NdC S w n c0 c1 (.slice K lk ck)) : lk = n.kids.length := by
 obtain ⟨t, b, ks⟩ := n
 obtain ⟨_, _, _, K', ck', e, _⟩ := NdC.kidsL h
 simp only [Value.slice.injEq] at e
 exact e.2.1
theorem exZ_kid0 : ∀ k ∈ (nodeX (exZ true true 2 0)).kids, (oddOfF k).oid = koid 0 := fun k hk => by
 have e : (nodeX (exZ true true 2 0)).kids = [extF ⟨koid 0, kcrit 0, bytesN (saysF (exZ true true 2 0) 0)⟩] := rfl
 rw [e] at hk
 rw [List.mem_singleton.1 hk, oddOf_ext (by decide)]
theorem head10_any (w : World) (hT : Tabs w) : Calls Tryz.prog 8 #[] w fun e w' => e = .returned (.bool true) ∧ Below w.heap.size w w' := by
 have hmf : ∀ (fn : Fn) (first cap : Array Value) (w : World), (Instr.makeFunc fn first cap).run Tryz.prog w = .ok (.func fn first cap) w := fun _ _ _ _ => rfl
 have hp1 := putE_any (fun _ => True) (exZ true true 2 0) _ _ _ _ _ _ _ _ _ w (exZ_cells _ _ _ _ _ _ (by decide) (by decide)) hT
 rw [exZ_put _ _ _ _ (by decide), if_pos (by decide)] at hp1
 have HP1 := hd_ hp1
 have HT := hd_ hT
 clear hp1 hT
 go_enter Tryz.func8, Tryz.ntmps8
 go_wp2_with fail
 refine HP1.out.mono ?_
 rintro e w1 ⟨hb1, t1, A1, l1, i1, K1, m1, n1, rfl, hn1⟩
 have hm1 : m1 = 1 := by rw [nd_len hn1, exZ_kids]; rfl
 subst hm1
 have hnb := below_new w1 (.cells #[.int .u8 t1, .slice A1 l1 i1, .slice K1 1 n1] 33)
 have hqn := heap_new_ w1 (.cells #[.int .u8 t1, .slice A1 l1 i1, .slice K1 1 n1] 33)
 have hbw := below_then hb1 hnb (lr_ _)
 have hg := get0_any _ _ _ _ _ _ (NdC.below hnb _ _ _ _ hn1) (HT.out.below hbw) exZ_kid0
 rw [getX_node (by decide) (by rw [exZ_right]; decide)] at hg
 have HG := hd_ hg
 have HB1 := hd_ (ai_ hbw hqn)
 clear hnb hqn hbw hg hn1 hb1 HP1
 go_wp2_with fail
 refine HG.out.mono ?_
 rintro e w2 ⟨hb2, c0, c1, c2, c3, c4, c5, c6, c7, c8, rfl, hx2⟩
 obtain ⟨q0, q1, q2, q3, B4, q4, j4, B5, q5, j5, B6, q6, j6, B7, q7, j7, B8, q8, j8, rfl, rfl, rfl, rfl, rfl, rfl, rfl, rfl, rfl⟩ := exC_shape hx2
 obtain rfl : q0 = true := by have := hx2.has; simpa [exZ] using this
 obtain rfl : q1 = true := by have := hx2.ca; simpa [exZ] using this
 obtain rfl : q2 = 2 := by have := hx2.path; simpa [exZ] using this
 have hnb := below_new w2 (.cells #[.bool true, .bool true, .int .i64 2, .int .u16 q3, .slice B4 q4 j4, .slice B5 q5 j5, .slice B6 q6 j6, .slice B7 q7 j7, .slice B8 q8 j8] 28)
 have hqn := heap_new_ w2 (.cells #[.bool true, .bool true, .int .i64 2, .int .u16 q3, .slice B4 q4 j4, .slice B5 q5 j5, .slice B6 q6 j6, .slice B7 q7 j7, .slice B8 q8 j8] 28)
 have hb22 := below_then hb2 hnb (lr_ _)
 have hbw := below_then HB1.out.1 hb22 (lr_ _)
 have hp3 := putE_any (fun _ => True) (exZ false true 0 0) _ _ _ _ _ _ _ _ _ (w2.alloc (.cells #[.bool true, .bool true, .int .i64 2, .int .u16 q3, .slice B4 q4 j4, .slice B5 q5 j5, .slice B6 q6 j6, .slice B7 q7 j7, .slice B8 q8 j8] 28)) (exZ_cells _ _ _ _ _ _ (by decide) (by decide)) (HT.out.below hbw)
 rw [exZ_put _ _ _ _ (by decide), if_neg (by decide)] at hp3
 have HP3 := hd_ hp3
 have HB2 := hd_ (ai_ hbw (ai_ hqn (ai_ hb22 hnb)))
 clear hnb hqn hbw hp3 hb22 hb2 hx2 HG
 go_wp2_with fail
 refine HP3.out.mono ?_
 rintro e w3 ⟨hb3, rfl⟩
 have hnb := below_new w3 (.cells #[.int .u8 0, .slice none 0 0, .slice none 0 0] 33)
 have hb33 := below_then hb3 hnb (lr_ _)
 obtain ⟨y0, y1, y2, y3, y4, y5, y6, y7, y8⟩ := box9 hb33 HB2.out.2.1
 obtain ⟨x0, x1, x2⟩ := box_nd (below_then HB2.out.2.2.1 hb33 (lr_ _)) HB1.out.2
 have HE := hd_ (below_then HB2.out.1 hb33 (lr_ _))
 clear hnb hb33 hb3 HB1 HB2 HP3
 go_wp2
 go_ret
 exact ⟨rfl, HE.out⟩
end Go.Proofs.YtdcpggodlggjjaaGreatDoor.nmc
namespace Go.Proofs.YtdcpggodlggjjaaGreatDoor.nmc
open Go.RowKit tlvc tlvd ndc txc txm intc intm
def RPut (w : World) (r : Option Nd) (e : Ending) (w' : World) : Prop :=
 Below w.heap.size w w' ∧ match r with
 | none => e = .returned (.tuple #[.agg #[.int .u8 0, .slice none 0 0, .slice none 0 0], .int .i64 101])
 | some n => ∃ t A la ca K lk ck, e = .returned (.tuple #[.agg #[.int .u8 t, .slice A la ca, .slice K lk ck], .int .i64 0]) ∧ NdC (fun g => w.heap.size ≤ g) w' n (.int .u8 t) (.slice A la ca) (.slice K lk ck)
theorem rputX_any (B : Nat → Prop) (x : Ex) (c0 c1 c2 c3 c4 c5 c6 c7 c8 : Value) (w : World) (hx : ExC B w x c0 c1 c2 c3 c4 c5 c6 c7 c8) (hT : Tabs w) :
 Calls Tryz.prog 10 #[.agg #[c0, c1, c2, c3, c4, c5, c6, c7, c8]] w (RPut w (if rightX x = true then some (nodeX x) else none)) := by
 obtain ⟨b0, b1, b2, b3, A4, L4, k4, A5, L5, k5, A6, L6, k6, A7, L7, k7, A8, L8, k8, rfl, rfl, rfl, rfl, rfl, rfl, rfl, rfl, rfl⟩ := exC_shape hx
 obtain ⟨W0, hW0⟩ := nm_ ((w.alloc (.cells #[.bool b0, .bool b1, .int .i64 b2, .int .u16 b3, .slice A4 L4 k4, .slice A5 L5 k5, .slice A6 L6 k6, .slice A7 L7 k7, .slice A8 L8 k8] 28)).alloc (.cells #[.int .u8 0, .slice none 0 0, .slice none 0 0] 33))
 have hb0 : Below w.heap.size w W0 := by rw [← hW0]; exact (below_new _ _).alloc (by simp) _
 have p0 : W0.heap[w.heap.size + 1]? = some (.cells #[.int .u8 0, .slice none 0 0, .slice none 0 0] 33) := by rw [← hW0]; exact heap_is (by simp)
 have q0 : W0.heap[w.heap.size]? = some (.cells #[.bool b0, .bool b1, .int .i64 b2, .int .u16 b3, .slice A4 L4 k4, .slice A5 L5 k5, .slice A6 L6 k6, .slice A7 L7 k7, .slice A8 L8 k8] 28) := by rw [← hW0, heap_old_ _ _ (by simp)]; exact heap_new_ _ _
 have hz0 : W0.heap.size = w.heap.size + 2 := by rw [← hW0]; simp
 obtain ⟨s0, s1, s2, s3, s4, s5, s6, s7, s8⟩ := box9 (br_ _ W0) q0
 have hr := rrightX_any B x _ _ _ _ _ _ _ _ _ W0 (hx.below hb0) (hT.below hb0)
 have hnd := fun (h : rightX x = true) W (hW : Below W0.heap.size W0 W) => rnodeX_any B x _ _ _ _ _ _ _ _ _ W (hx.below (below_then hb0 hW (lr_ _))) h (hT.below (below_then hb0 hW (lr_ _)))
 obtain ⟨r, hrr⟩ := nm_ (rightX x)
 obtain ⟨n, hn⟩ := nm_ (nodeX x)
 rw [hrr] at hr hnd ⊢
 rw [hn] at hnd ⊢
 obtain ⟨R, hRR⟩ := nm_ ((if r = true then some n else none))
 rw [hRR]
 have HRR := hd_ hRR
 have HR := hd_ hr
 have HN := hd_ hnd
 have HB := hd_ (ai_ hb0 (ai_ p0 (ai_ hz0 q0)))
 clear hr hnd hb0 p0 q0 hz0 hrr hn hx hT hRR
 go_enter Tryz.func10, Tryz.ntmps10
 go_wp2_with fail
 refine HR.out.mono ?_
 rintro e w1 ⟨rfl, hb1⟩
 have p1 := (hb1.block _ (by rw [HB.out.2.2.1]; omega)).trans HB.out.2.1
 have hB1 := below_then HB.out.1 hb1 (lr_ _)
 have h01 := hb1
 clear s0 s1 s2 s3 s4 s5 s6 s7 s8
 cases r with
 | false =>
  have hRe : none = R := by have h := HRR.out; rwa [if_neg (by decide)] at h
  subst hRe
  obtain ⟨r0, r1, r2, hB⟩ := res3 (y0 := .int .u8 0) (y1 := .slice none 0 0) (y2 := .slice none 0 0) (Nat.le_succ _) hB1 p1
  have f0 := fh_ p1 0
  have f1 := fh_ p1 1
  have f2 := fh_ p1 2
  have s0 := (ch_ p1 0).trans rfl
  have s1 := (ch_ p1 1).trans rfl
  have s2 := (ch_ p1 2).trans rfl
  have HE := hd_ hB
  clear hB hB1 p1 h01 hb1 HR HN HB
  go_wp2_with fail
  refine bodyPost_ret (v := .tuple #[.agg #[.int .u8 0, .slice none 0 0, .slice none 0 0], .int .i64 101]) ?_ rfl ⟨HE.out, rfl⟩
  simp [results, Tryz.results10, go_sem, r0, r1, r2]
 | true =>
  have hRe : some n = R := by have h := HRR.out; rwa [if_pos rfl] at h
  subst hRe
  obtain ⟨s0, s1, s2, s3, s4, s5, s6, s7, s8⟩ := box9 hb1 HB.out.2.2.2
  have hcall := HN.out rfl w1 h01
  have HC := hd_ hcall
  have H1 := hd_ (ai_ hB1 p1)
  have hz := HB.out.2.2.1
  have hz1 := hb1.size
  clear hcall hB1 p1 h01 hb1 HR HN HB
  have HZ := hd_ (show w.heap.size + 2 ≤ w1.heap.size by omega)
  clear hz hz1
  go_wp2_with fail
  refine HC.out.mono ?_
  rintro e w3 ⟨hb3, t, A5', la5, ca5, K5, lk5, ck5, rfl, hn⟩
  clear s0 s1 s2 s3 s4 s5 s6 s7 s8
  have hz := HZ.out
  have p3 := (hb3.block _ (Array.getElem?_eq_some_iff.1 H1.out.2).1).trans H1.out.2
  obtain ⟨r0, r1, r2, hB⟩ := res3 (y0 := .int .u8 t) (y1 := .slice A5' la5 ca5) (y2 := .slice K5 lk5 ck5) (Nat.le_succ _) (below_then H1.out.1 hb3 (lr_ _)) p3
  have hn2 := res3_nd (b := w.heap.size + 1) (y0 := .int .u8 t) (y1 := .slice A5' la5 ca5) (y2 := .slice K5 lk5 ck5) (fun g hg => by omega) hn
  have f0 := fh_ p3 0
  have f1 := fh_ p3 1
  have f2 := fh_ p3 2
  have s0 := (ch_ p3 0).trans rfl
  have s1 := (ch_ p3 1).trans rfl
  have s2 := (ch_ p3 2).trans rfl
  have HE := hd_ (ai_ hB (NdC.mono (B' := fun g => w.heap.size ≤ g) (fun g hg => by omega) _ _ _ _ hn2))
  clear hB hn hn2 p3 hb3 HC H1 hz
  go_wp2_with fail
  refine bodyPost_ret (v := .tuple #[.agg #[.int .u8 t, .slice A5' la5 ca5, .slice K5 lk5 ck5], .int .i64 0]) ?_ rfl ⟨HE.out.1, _, _, _, _, _, _, _, rfl, HE.out.2⟩
  simp [results, Tryz.results10, go_sem, r0, r1, r2]
end Go.Proofs.YtdcpggodlggjjaaGreatDoor.nmc
namespace Go.Proofs.YtdcpggodlggjjaaGreatDoor.extsPut
open Go.ChangeShapes Go.WideShapes Go.ChangeAt Go.RowKit
theorem own : ownKnob Tryz.prog.godebug = none := by kernel_rfl
theorem laidOut : laidOutB Tryz.prog = true := by kernel_rfl
open tlvc tlvd ndc txc nmc
theorem cells9 {l : List Value} (h : l.length = 9) : ∃ a0 a1 a2 a3 a4 a5 a6 a7 a8, l = [a0, a1, a2, a3, a4, a5, a6, a7, a8] := by
 match l, h with
 | [a0, a1, a2, a3, a4, a5, a6, a7, a8], _ => exact ⟨a0, a1, a2, a3, a4, a5, a6, a7, a8, rfl⟩
theorem walk (x0 : List dtc.Dt) (c0_0 c0_1 c0_2 c0_3 c0_4 c0_5 c0_6 c0_7 c0_8 : Value) (w : World) (s0 : dtc.IsShs [.bool, .bool, .int .i64, .int .u16, .row (.row (.int .i64)), .row (.agg [.str, .row (.str)]), .row (.row (.agg [.row (.int .i64), .str])), .row (.row (.agg [.row (.int .i64), .str])), .row (.agg [.row (.int .i64), .bool, .bys])] x0) (w0 : dtc.LiesAll (fun _ => True) w x0 [c0_0, c0_1, c0_2, c0_3, c0_4, c0_5, c0_6, c0_7, c0_8]) (y0 : dtc.fitDts x0) (hT : txc.Tabs w) :
 Calls Tryz.prog 3 #[.agg #[c0_0, c0_1, c0_2, c0_3, c0_4, c0_5, c0_6, c0_7, c0_8]] w fun e w' => e = .returned (.bool true) ∧ Below w.heap.size w w' := by
 obtain ⟨x, hx⟩ := ex_of s0 w0 y0
 obtain ⟨a0, a1, a2, a3, aA4, al4, ac4, aA5, al5, ac5, aA6, al6, ac6, aA7, al7, ac7, aA8, al8, ac8, rfl, rfl, rfl, rfl, rfl, rfl, rfl, rfl, rfl⟩ := exC_shape hx
 obtain ⟨W0, hW0⟩ := nm_ (w.alloc (.cells #[.bool a0, .bool a1, .int .i64 a2, .int .u16 a3, .slice aA4 al4 ac4, .slice aA5 al5 ac5, .slice aA6 al6 ac6, .slice aA7 al7 ac7, .slice aA8 al8 ac8] 28))
 have hb0 : Below w.heap.size w W0 := by rw [← hW0]; exact nmc.below_new _ _
 have p0 : W0.heap[w.heap.size]? = some (.cells #[.bool a0, .bool a1, .int .i64 a2, .int .u16 a3, .slice aA4 al4 ac4, .slice aA5 al5 ac5, .slice aA6 al6 ac6, .slice aA7 al7 ac7, .slice aA8 al8 ac8] 28) := by rw [← hW0]; exact heap_new_ _ _
 have hbw := fun W (hW : Below W0.heap.size W0 W) => nmc.below_then hb0 hW (lr_ _)
 have HBX := hd_ (fun W (hW : Below W0.heap.size W0 W) => box9 hW p0)
 have HHD := hd_ (head10_any W0 (hT.below hb0))
 have hput := fun W (hW : Below W0.heap.size W0 W) => putE_any _ x _ _ _ _ _ _ _ _ _ W (hx.below (hbw W hW)) (hT.below (hbw W hW))
 have hrp := fun W (hW : Below W0.heap.size W0 W) => rputX_any _ x _ _ _ _ _ _ _ _ _ W (hx.below (hbw W hW)) (hT.below (hbw W hW))
 rw [putX_right hx.u16] at hput
 obtain ⟨r, hr⟩ := nm_ ((if rightX x = true then some (nodeX x) else none))
 rw [hr] at hput
 simp only [hr] at hrp
 have HPUT := hd_ hput
 have HRP := hd_ hrp
 have HBW := hd_ hbw
 clear hput hrp hr hbw p0 hb0 hT hx w0 y0 s0
 go_enter Tryz.func3, Tryz.ntmps3
 go_wp2_with fail
 refine HHD.out.mono ?_
 rintro e wa ⟨rfl, hba⟩
 have HA := hd_ hba
 have HC := hd_ (HPUT.out wa hba)
 obtain ⟨u0, u1, u2, u3, u4, u5, u6, u7, u8⟩ := HBX.out wa hba
 clear hba HHD HPUT hW0
 go_wp2_with fail
 refine HC.out.mono ?_
 rintro e wb ⟨hbb, hpost⟩
 clear u0 u1 u2 u3 u4 u5 u6 u7 u8
 cases r with
 | none =>
  obtain rfl := hpost
  have hnb := nmc.below_new wb (.cells #[.int .u8 0, .slice none 0 0, .slice none 0 0] 33)
  have hqn := heap_new_ wb (.cells #[.int .u8 0, .slice none 0 0, .slice none 0 0] 33)
  have hb1 := nmc.below_then (nmc.below_then HA.out hbb (lr_ _)) hnb (lr_ _)
  have HC2 := hd_ (HRP.out _ hb1)
  obtain ⟨u0, u1, u2, u3, u4, u5, u6, u7, u8⟩ := HBX.out _ hb1
  have H1 := hd_ (ai_ hb1 hqn)
  clear hb1 hnb hqn hbb HC HA
  go_wp2_with fail
  refine HC2.out.mono ?_
  rintro e wc ⟨hbc, hpost⟩
  clear HC2 u0 u1 u2 u3 u4 u5 u6 u7 u8
  obtain rfl := hpost
  have hnb := nmc.below_new wc (.cells #[.int .u8 0, .slice none 0 0, .slice none 0 0] 33)
  have hqn := heap_new_ wc (.cells #[.int .u8 0, .slice none 0 0, .slice none 0 0] 33)
  have hbcc := nmc.below_then hbc hnb (lr_ _)
  have hb2 := nmc.below_then H1.out.1 hbcc (lr_ _)
  obtain ⟨v0, v1, v2⟩ := box_nd hbcc H1.out.2
  obtain ⟨z0, z1, z2⟩ := box_nd (br_ _ _) hqn
  have hz : ∀ W, NdC (fun _ => True) W (.mk 0 [] []) (.int .u8 0) (.slice none 0 0) (.slice none 0 0) := fun W => ndC_leaf (by omega) (lr_ _) (Nat.zero_le _) (Bys.nil_ _ _) (fun h => by omega)
  have HS := hd_ (same_self _ _ _ _ _ _ _ _ _ _ (hz (wc.alloc (.cells #[.int .u8 0, .slice none 0 0, .slice none 0 0] 33))) (hz _))
  clear hz
  have H2 := hd_ hb2
  clear hnb hqn hbcc hb2 hbc
  go_wp2_with fail
  refine HS.out.mono ?_
  rintro e wr ⟨rfl, hbr⟩
  have HE := hd_ (HBW.out _ (nmc.below_then H2.out hbr (lr_ _)))
  clear HS hbr H2 v0 v1 v2 z0 z1 z2
  go_wp2
  go_ret
  exact ⟨rfl, HE.out⟩
 | some n =>
  obtain ⟨t1, A1, l1, i1, K1, m1, n1, rfl, hn1⟩ := hpost
  have hnb := nmc.below_new wb (.cells #[.int .u8 t1, .slice A1 l1 i1, .slice K1 m1 n1] 33)
  have hqn := heap_new_ wb (.cells #[.int .u8 t1, .slice A1 l1 i1, .slice K1 m1 n1] 33)
  have hb1 := nmc.below_then (nmc.below_then HA.out hbb (lr_ _)) hnb (lr_ _)
  have HC2 := hd_ (HRP.out _ hb1)
  obtain ⟨u0, u1, u2, u3, u4, u5, u6, u7, u8⟩ := HBX.out _ hb1
  have H1 := hd_ (ai_ hb1 (ai_ hqn (NdC.below hnb _ _ _ _ hn1)))
  clear hb1 hnb hqn hbb HC HA hn1
  go_wp2_with fail
  refine HC2.out.mono ?_
  rintro e wc ⟨hbc, hpost⟩
  clear HC2 u0 u1 u2 u3 u4 u5 u6 u7 u8
  obtain ⟨t2, A2, l2, i2, K2, m2, n2, rfl, hn2⟩ := hpost
  have hnb := nmc.below_new wc (.cells #[.int .u8 t2, .slice A2 l2 i2, .slice K2 m2 n2] 33)
  have hqn := heap_new_ wc (.cells #[.int .u8 t2, .slice A2 l2 i2, .slice K2 m2 n2] 33)
  have hbcc := nmc.below_then hbc hnb (lr_ _)
  have hb2 := nmc.below_then H1.out.1 hbcc (lr_ _)
  obtain ⟨v0, v1, v2⟩ := box_nd hbcc H1.out.2.1
  obtain ⟨z0, z1, z2⟩ := box_nd (br_ _ _) hqn
  have HS := hd_ (same_self _ _ _ _ _ _ _ _ _ _ (NdC.below hbcc _ _ _ _ H1.out.2.2) (NdC.below hnb _ _ _ _ hn2))
  have H2 := hd_ hb2
  clear hnb hqn hbcc hb2 hbc hn2
  go_wp2_with fail
  refine HS.out.mono ?_
  rintro e wr ⟨rfl, hbr⟩
  have HE := hd_ (HBW.out _ (nmc.below_then H2.out hbr (lr_ _)))
  clear HS hbr H2 v0 v1 v2 z0 z1 z2
  go_wp2
  go_ret
  exact ⟨rfl, HE.out⟩
theorem reads (os : Os) {H : Type} (enc : TypeId × Value → H) : ∃ places, DataW.whole enc Tryz.prog ((txc.laidWorld os).forCall (fun _ _ => 0) ⟨#[], #[.agg #[.bool false, .bool false, .int .i64 0, .int .u16 0, .slice none 0 0, .slice none 0 0, .slice none 0 0, .slice none 0 0, .slice none 0 0]], []⟩).memory Tryz.f3.params.toList Rows.extsPutSpec.vars false (#[.agg #[.bool false, .bool false, .int .i64 0, .int .u16 0, .slice none 0 0, .slice none 0 0, .slice none 0 0, .slice none 0 0, .slice none 0 0]] : Array Value).toList 8 = some ([.agg [.lit (.bool false), .lit (.bool false), .lit (.int .i64 0), .lit (.int .u16 0), .nil, .nil, .nil, .nil, .nil]], [], places) :=
 ⟨[], by kernel_rfl⟩
theorem lifted (os : Os) (started : os.Started) (H : Type) (enc : TypeId × Value → H) (F : Stop.Interp) :
 ReturnsInHanded {} Tryz.checked os 3 .any ((OpenSpec.ofChange Rows.extsPutSpec).preRow enc Tryz.prog Tryz.f3 Rows.extsPutRow.domain false Rows.extsPutRow.laid) (((OpenSpec.ofChange Rows.extsPutSpec).at F).post enc Tryz.prog Tryz.f3 false true false false) := by
 obtain ⟨places, hx⟩ := reads os enc
 refine returnsInHanded_of_row (C := Tryz.checked) (s := (OpenSpec.ofChange Rows.extsPutSpec)) own started (by kernel_rfl) Tryz.func3
  (witness_row_at (enc := enc) (C := Tryz.checked) false (txc.laidWorld os) #[.agg #[.bool false, .bool false, .int .i64 0, .int .u16 0, .slice none 0 0, .slice none 0 0, .slice none 0 0, .slice none 0 0, .slice none 0 0]] rfl (by kernel_rfl) (by kernel_rfl) (by kernel_rfl)
    (OpenSpec.preRow_of_cond 8 hx (by kernel_rfl) (fun k hk => by cases hk) (by kernel_rfl) (txc.laid_met os _))) ?_
 intro W base args ds gs before hval0 hW hcnd hcond hsz0 hL _ _
 have hval : ∀ (j : Nat) t v, Tryz.f3.params[j]? = some t → args[j]? = some v → Value.okWide Tryz.prog W .any base t v := hval0
 have hW' := hW
 obtain ⟨p, q, hA0, hV, rfl, hfz, hnd⟩ := hW
 have hA : DataW.TrodAll enc Tryz.prog W 0 (fun _ => true) true Tryz.f3.params.toList args.toList ds p := hA0
 have hsz : (DataW.weightsEach Tryz.prog (Tryz.f3.params.toList ++ (OpenSpec.ofChange Rows.extsPutSpec).bare.plain.varTypes Tryz.prog) (ds ++ gs)).all (· ≤ reachBytes) = true := hsz0
 rw [Tryz.params3] at hA hval hsz
 obtain ⟨v0, vs0, d0, ds0, p0, q0, hargs, rfl, rfl, h0, r_0⟩ := trodAll_cons hA
 obtain ⟨rfl, rfl, rfl⟩ := trodAll_nil r_0
 obtain rfl : args = #[v0] := by cases args; simp_all
 obtain ⟨rfl, rfl⟩ := trodVars_none hV
 have k0 := h0
 have lt0 : ∀ x ∈ p0, x.block < W.heap.size := by obtain ⟨m, hm⟩ := k0; exact DataW.trod_lt m _ _ _ hm
 obtain ⟨cl0, x0, rfl, cn0, s0, w0, z0⟩ := dtc.open_agg (l := [.bool, .bool, .int .i64, .int .u16, .row (.row (.int .i64)), .row (.agg [.str, .row (.str)]), .row (.row (.agg [.row (.int .i64), .str])), .row (.row (.agg [.row (.int .i64), .str])), .row (.agg [.row (.int .i64), .bool, .bys])]) Tryz.underlying28 (dtc.fit_agg Tryz.underlying28 (by kernel_rfl) (dtc.fits_cons (by kernel_rfl) (dtc.fit_bool Tryz.underlying4 (by kernel_rfl)) (dtc.fits_cons (by kernel_rfl) (dtc.fit_bool Tryz.underlying4 (by kernel_rfl)) (dtc.fits_cons (by kernel_rfl) (dtc.fit_int Tryz.underlying3 (by kernel_rfl)) (dtc.fits_cons (by kernel_rfl) (dtc.fit_int Tryz.underlying22 (by kernel_rfl)) (dtc.fits_cons (by kernel_rfl) (dtc.fit_row Tryz.underlying23 (dtc.fit_row Tryz.underlying51 (dtc.fit_int Tryz.underlying3 (by kernel_rfl)) (by kernel_rfl) (by kernel_rfl)) (by kernel_rfl) (by kernel_rfl)) (dtc.fits_cons (by kernel_rfl) (dtc.fit_row Tryz.underlying24 (dtc.fit_agg Tryz.underlying76 (by kernel_rfl) (dtc.fits_cons (by kernel_rfl) (dtc.fit_str Tryz.underlying9 (by kernel_rfl)) (dtc.fits_cons (by kernel_rfl) (dtc.fit_row Tryz.underlying74 (dtc.fit_str Tryz.underlying9 (by kernel_rfl)) (by kernel_rfl) (by kernel_rfl)) dtc.fits_nil))) (by kernel_rfl) (by kernel_rfl)) (dtc.fits_cons (by kernel_rfl) (dtc.fit_row Tryz.underlying25 (dtc.fit_row Tryz.underlying79 (dtc.fit_agg Tryz.underlying141 (by kernel_rfl) (dtc.fits_cons (by kernel_rfl) (dtc.fit_row Tryz.underlying51 (dtc.fit_int Tryz.underlying3 (by kernel_rfl)) (by kernel_rfl) (by kernel_rfl)) (dtc.fits_cons (by kernel_rfl) (dtc.fit_str Tryz.underlying9 (by kernel_rfl)) dtc.fits_nil))) (by kernel_rfl) (by kernel_rfl)) (by kernel_rfl) (by kernel_rfl)) (dtc.fits_cons (by kernel_rfl) (dtc.fit_row Tryz.underlying25 (dtc.fit_row Tryz.underlying79 (dtc.fit_agg Tryz.underlying141 (by kernel_rfl) (dtc.fits_cons (by kernel_rfl) (dtc.fit_row Tryz.underlying51 (dtc.fit_int Tryz.underlying3 (by kernel_rfl)) (by kernel_rfl) (by kernel_rfl)) (dtc.fits_cons (by kernel_rfl) (dtc.fit_str Tryz.underlying9 (by kernel_rfl)) dtc.fits_nil))) (by kernel_rfl) (by kernel_rfl)) (by kernel_rfl) (by kernel_rfl)) (dtc.fits_cons (by kernel_rfl) (dtc.fit_row Tryz.underlying26 (dtc.fit_agg Tryz.underlying60 (by kernel_rfl) (dtc.fits_cons (by kernel_rfl) (dtc.fit_row Tryz.underlying51 (dtc.fit_int Tryz.underlying3 (by kernel_rfl)) (by kernel_rfl) (by kernel_rfl)) (dtc.fits_cons (by kernel_rfl) (dtc.fit_bool Tryz.underlying4 (by kernel_rfl)) (dtc.fits_cons (by kernel_rfl) (dtc.fit_bys Tryz.underlying30 Tryz.underlying5 (by kernel_rfl) (by kernel_rfl) (by kernel_rfl)) dtc.fits_nil)))) (by kernel_rfl) (by kernel_rfl)) dtc.fits_nil)))))))))) (hval 0 28 v0 rfl rfl) h0
 have y0 := z0 (dtc.each_fit hsz (j := 0) rfl rfl)
 have cn0 : cl0.length = 9 := by simpa [dtc.szs, dtc.Sh.sz] using cn0
 obtain ⟨c0_0, c0_1, c0_2, c0_3, c0_4, c0_5, c0_6, c0_7, c0_8, ecl0⟩ := cells9 cn0
 subst ecl0
 clear hA0 hval0
 have hT : txc.Tabs W := txc.tabs_of hL
 refine (walk x0 c0_0 c0_1 c0_2 c0_3 c0_4 c0_5 c0_6 c0_7 c0_8 W s0 w0 y0 hT).mono fun e W' ⟨he, bel⟩ => ?_
 subst he
 exact ⟨_, rfl, _, _, _, [], _, [], hW', trodAll_mk1 (shut_bool Tryz.underlying4 _), (trodAll_cons_mk (Below.trod laidOut (by kernel_rfl) (of_decide_eq_true (by kernel_rfl)) k0 bel lt0) trodAll_mk0), rfl, bel.frame _, fun h => by cases h⟩
theorem over : Rows.extsPutRow.holds Tryz.pinned (OpenSpec.ofChange Rows.extsPutSpec) :=
 OpenClaim.holds_of_cond 3 Tryz.f3 rfl rfl rfl rfl rfl rfl rfl ⟨rfl, rfl, rfl, rfl, rfl⟩ rfl rfl rfl rfl rfl (by kernel_rfl) Tryz.func3 (by kernel_rfl)
  (of_decide_eq_true (by kernel_rfl)) (by unfold Func.isWrapper; first | (rw [if_pos (by decide +kernel)]; kernel_rfl) | (rw [if_neg (by decide +kernel)]; exact ⟨rfl, rfl⟩))
  (fun os started H enc _ F => by rw [OpenClaim.pre_eq_preRow]; exact lifted os started H enc F)
theorem plain (f : FuncId) (fn : Func) (hf : Tryz.pinned.checked.prog.funcNamed "warder/warderlaw10.ExtsPut" = some f) (hfn : Tryz.pinned.checked.prog.funcs[f]? = some fn) :
 true = Tryz.pinned.checked.prog.looks [] ∧ ∀ (j : Nat) t, fn.params[j]? = some t → Tryz.pinned.checked.prog.wantsStandIn t = false := by
 obtain rfl : f = 3 := Option.some.inj ((show Tryz.prog.funcNamed "warder/warderlaw10.ExtsPut" = some 3 by kernel_rfl).symm.trans hf) |>.symm
 obtain rfl : fn = Tryz.f3 := (Option.some.inj (Tryz.func3.symm.trans hfn)).symm
 refine ⟨by kernel_rfl, fun j t ht => ?_⟩
 rw [Tryz.params3] at ht
 match j, ht with
  | 0, ht => obtain rfl : t = 28 := (Option.some.inj ht).symm; exact (show Tryz.prog.wantsStandIn 28 = false by kernel_rfl)
  | j + 1, ht => simp at ht
theorem proved : Rows.ExtsPutCardSaid :=
 Claim7.holds_tied_plain_at .later [] _ _ _ _ over (fun _ h => by cases h) (by kernel_rfl) (fun _ h => by cases h) extsPut_row_tie rfl ⟨rfl, rfl⟩ (by kernel_rfl) rfl plain (by kernel_rfl)
#print axioms proved
end Go.Proofs.YtdcpggodlggjjaaGreatDoor.extsPut
