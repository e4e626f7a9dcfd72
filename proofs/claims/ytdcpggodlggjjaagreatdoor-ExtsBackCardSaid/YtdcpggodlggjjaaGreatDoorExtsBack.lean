/- The law ExtsBack of warderlaw10 answers true for any extensions and any node, and leaves its arguments as they were; no condition but that the library's two tables are as its text lays them. -/
import Derived.Test.YtdcpggodlggjjaaGreatDoorAt
import Derived.Test.YtdcpggodlggjjaaGreatDoorAq
import Derived.Test.YtdcpggodlggjjaaGreatDoorCards
import Derived.Test.YtdcpggodlggjjaaGreatDoorTie
import Derived.WalkKit
import Derived.ProofKit
import Derived.OpenShut
import Derived.ChangeOld
import Derived.Below
import Derived.SizedLaws
import Derived.Test.YtdcpggodlggjjaaGreatDoorKb
import Derived.Test.YtdcpggodlggjjaaGreatDoorXc
import Derived.Laws.EntriesVeiled
namespace Go.Proofs.YtdcpggodlggjjaaGreatDoor.nmc
open Go.RowKit Go.Proofs.YtdcpggodlggjjaaGreatDoor.tlvc Go.Proofs.YtdcpggodlggjjaaGreatDoor.tlvd Go.Proofs.YtdcpggodlggjjaaGreatDoor.ndc Go.Proofs.YtdcpggodlggjjaaGreatDoor.txc Go.Proofs.YtdcpggodlggjjaaGreatDoor.txm Go.Proofs.YtdcpggodlggjjaaGreatDoor.intc Go.Proofs.YtdcpggodlggjjaaGreatDoor.intm
set_option linter.unusedVariables false
set_option linter.unusedSimpArgs false
def exZ (h c : Bool) (p u : Int) : Ex := ⟨h, c, p, u, [], [], [], [], []⟩
theorem exZ_cells (S : Nat → Prop) (w : World) (h c : Bool) (p u : Int) (hp : -9223372036854775808 ≤ p ∧ p ≤ 9223372036854775807) (hu : 0 ≤ u ∧ u ≤ 65535) : ExC S w (exZ h c p u) (.bool h) (.bool c) (.int .i64 p) (.int .u16 u) (.slice none 0 0) (.slice none 0 0) (.slice none 0 0) (.slice none 0 0) (.slice none 0 0) :=
  ⟨rfl, rfl, rfl, hp, rfl, hu, LsC.nil, LsC.nil, LsC.nil, LsC.nil, LsC.nil⟩
theorem exZ_right (h c : Bool) (p u : Int) : rightX (exZ h c p u) = (if c = true then h && decide (-1 ≤ p) && decide (p ≤ 100) else decide (p = 0)) := by
  unfold rightX boundedX exZ
  simp [partX, oddsX]
theorem exZ_put (h c : Bool) (p u : Int) (hu : 0 ≤ u ∧ u ≤ 65535) : putX (exZ h c p u) = if (if c = true then h && decide (-1 ≤ p) && decide (p ≤ 100) else decide (p = 0)) = true then some (nodeX (exZ h c p u)) else none := by
  rw [putX_right hu, exZ_right]
theorem exZ_kids (h c : Bool) (p u : Int) : (nodeX (exZ h c p u)).kids.length = (if h = true then 1 else 0) + (if u = 0 then 0 else 1) := by
  have e1 : decide (u ≠ 0) = !decide (u = 0) := by simp
  unfold nodeX exZ knownN ks5
  cases h <;> by_cases hu : u = 0 <;> simp [kthere, hu, Nd.kids, List.filter]
theorem nd_len {S : Nat → Prop} {w : World} {n : Nd} {c0 c1 : Value} {K : Option Addr} {lk ck : Nat} (h : NdC S w n c0 c1 (.slice K lk ck)) : lk = n.kids.length := by
  obtain ⟨t, b, ks⟩ := n
  obtain ⟨_, _, _, K', ck', e, _⟩ := NdC.kidsL h
  simp only [Value.slice.injEq] at e
  exact e.2.1
set_option maxRecDepth 100000 in
set_option maxHeartbeats 8000000 in
theorem head10_any (w : World) (hT : Tabs w) : Calls Tryz.prog 8 #[] w fun e w' => e = .returned (.bool true) ∧ Below w.heap.size w w' := by
  have hmf : ∀ (fn : Fn) (first cap : Array Value) (w : World), (Instr.makeFunc fn first cap).run Tryz.prog w = .ok (.func fn first cap) w := fun _ _ _ _ => rfl
  have hp1 := putE_any (fun _ => True) (exZ true true 2 0) _ _ _ _ _ _ _ _ _ w (exZ_cells _ _ _ _ _ _ (by decide) (by decide)) hT
  rw [exZ_put _ _ _ _ (by decide), if_pos (by decide)] at hp1
  have HP1 := Lib.hid hp1
  have HT := Lib.hid hT
  clear hp1 hT
  go_enter Tryz.func8, Tryz.ntmps8
  go_wp2_with fail
  refine HP1.out.mono ?_
  rintro e w1 ⟨hb1, t1, A1, l1, i1, K1, m1, n1, rfl, hn1⟩
  have hm1 : m1 = 1 := by rw [nd_len hn1, exZ_kids]; rfl
  subst hm1
  have hnb := below_new w1 (.cells #[.int .u8 t1, .slice A1 l1 i1, .slice K1 1 n1] 33)
  have hqn := heap_new_ w1 (.cells #[.int .u8 t1, .slice A1 l1 i1, .slice K1 1 n1] 33)
  have hbw := below_then hb1 hnb (Nat.le_refl _)
  have hg := getE_any _ _ _ _ _ _ (NdC.below hnb _ _ _ _ hn1) (HT.out.below hbw)
  rw [getX_node (by decide) (by rw [exZ_right]; decide)] at hg
  have HG := Lib.hid hg
  have HB1 := Lib.hid (And.intro hbw hqn)
  clear hnb hqn hbw hg hn1 hb1 HP1
  go_wp2_with fail
  refine HG.out.mono ?_
  rintro e w2 ⟨hb2, c0, c1, c2, c3, c4, c5, c6, c7, c8, rfl, hx2⟩
  obtain ⟨q0, q1, q2, q3, B4, q4, j4, B5, q5, j5, B6, q6, j6, B7, q7, j7, B8, q8, j8, rfl, rfl, rfl, rfl, rfl, rfl, rfl, rfl, rfl⟩ := exC_shape hx2
  obtain rfl : q0 = true := by have := hx2.has; simpa [exZ] using this
  obtain rfl : q1 = true := by have := hx2.ca; simpa [exZ] using this
  obtain rfl : q2 = 2 := by have := hx2.path; simpa [exZ] using this
  have hnb := below_new w2 (.cells #[.bool true, .bool true, .int .i64 2, .int .u16 q3, .slice B4 q4 j4, .slice B5 q5 j5, .slice B6 q6 j6, .slice B7 q7 j7, .slice B8 q8 j8] 28)
  have hqn := heap_new_ w2 (.cells #[.bool true, .bool true, .int .i64 2, .int .u16 q3, .slice B4 q4 j4, .slice B5 q5 j5, .slice B6 q6 j6, .slice B7 q7 j7, .slice B8 q8 j8] 28)
  have hb22 := below_then hb2 hnb (Nat.le_refl _)
  have hbw := below_then HB1.out.1 hb22 (Nat.le_refl _)
  have hp3 := putE_any (fun _ => True) (exZ false true 0 0) _ _ _ _ _ _ _ _ _ (w2.alloc (.cells #[.bool true, .bool true, .int .i64 2, .int .u16 q3, .slice B4 q4 j4, .slice B5 q5 j5, .slice B6 q6 j6, .slice B7 q7 j7, .slice B8 q8 j8] 28)) (exZ_cells _ _ _ _ _ _ (by decide) (by decide)) (HT.out.below hbw)
  rw [exZ_put _ _ _ _ (by decide), if_neg (by decide)] at hp3
  have HP3 := Lib.hid hp3
  have HB2 := Lib.hid (And.intro hbw (And.intro hqn (And.intro hb22 hnb)))
  clear hnb hqn hbw hp3 hb22 hb2 hx2 HG
  go_wp2_with fail
  refine HP3.out.mono ?_
  rintro e w3 ⟨hb3, rfl⟩
  have hnb := below_new w3 (.cells #[.int .u8 0, .slice none 0 0, .slice none 0 0] 33)
  have hb33 := below_then hb3 hnb (Nat.le_refl _)
  obtain ⟨y0, y1, y2, y3, y4, y5, y6, y7, y8⟩ := box9 hb33 HB2.out.2.1
  obtain ⟨x0, x1, x2⟩ := box_nd (below_then HB2.out.2.2.1 hb33 (Nat.le_refl _)) HB1.out.2
  have HE := Lib.hid (below_then HB2.out.1 hb33 (Nat.le_refl _))
  clear hnb hb33 hb3 HB1 HB2 HP3
  go_wp2
  go_ret
  exact ⟨rfl, HE.out⟩
end Go.Proofs.YtdcpggodlggjjaaGreatDoor.nmc
namespace Go.Proofs.YtdcpggodlggjjaaGreatDoor.nmc
open Go.RowKit Go.Proofs.YtdcpggodlggjjaaGreatDoor.tlvc Go.Proofs.YtdcpggodlggjjaaGreatDoor.tlvd Go.Proofs.YtdcpggodlggjjaaGreatDoor.ndc Go.Proofs.YtdcpggodlggjjaaGreatDoor.txc Go.Proofs.YtdcpggodlggjjaaGreatDoor.txm Go.Proofs.YtdcpggodlggjjaaGreatDoor.intc Go.Proofs.YtdcpggodlggjjaaGreatDoor.intm
set_option linter.unusedVariables false
set_option linter.unusedSimpArgs false
set_option maxRecDepth 100000 in
set_option maxHeartbeats 16000000 in
theorem rsameX_self (B C : Nat → Prop) (x : Ex) (c0 c1 c2 c3 c4 c5 c6 c7 c8 d0 d1 d2 d3 d4 d5 d6 d7 d8 : Value) (w : World) (hx : ExC B w x c0 c1 c2 c3 c4 c5 c6 c7 c8) (hy : ExC C w x d0 d1 d2 d3 d4 d5 d6 d7 d8) :
    Calls Tryz.prog 15 #[.agg #[c0, c1, c2, c3, c4, c5, c6, c7, c8], .agg #[d0, d1, d2, d3, d4, d5, d6, d7, d8]] w fun e w' => e = .returned (.bool true) ∧ Below w.heap.size w w' := by
  obtain ⟨A4, k4, rfl, kc4, km4, hA4⟩ := hx.eku
  obtain ⟨B4, j4, rfl, jc4, jm4, hB4⟩ := hy.eku
  obtain ⟨A5, k5, rfl, kc5, km5, hA5⟩ := hx.princs
  obtain ⟨B5, j5, rfl, jc5, jm5, hB5⟩ := hy.princs
  obtain ⟨A6, k6, rfl, kc6, km6, hA6⟩ := hx.permit
  obtain ⟨B6, j6, rfl, jc6, jm6, hB6⟩ := hy.permit
  obtain ⟨A7, k7, rfl, kc7, km7, hA7⟩ := hx.exclude
  obtain ⟨B7, j7, rfl, jc7, jm7, hB7⟩ := hy.exclude
  obtain ⟨A8, k8, rfl, kc8, km8, hA8⟩ := hx.odd
  obtain ⟨B8, j8, rfl, jc8, jm8, hB8⟩ := hy.odd
  obtain rfl := hx.has
  obtain rfl := hy.has
  obtain rfl := hx.ca
  obtain rfl := hy.ca
  obtain rfl := hx.path
  obtain rfl := hy.path
  obtain rfl := hx.usage
  obtain rfl := hy.usage
  clear hx hy
  obtain ⟨xs4, hxs4⟩ : ∃ y, x.eku = y := ⟨_, rfl⟩
  rw [hxs4] at kc4 jc4 hA4 hB4 ⊢
  obtain ⟨L4, hL4⟩ : ∃ y, xs4.length = y := ⟨_, rfl⟩
  rw [hL4] at kc4 jc4 ⊢
  have q4 : k4 ≤ 9223372036854775807 := by unfold maxLen at km4; omega
  have r4 : j4 ≤ 9223372036854775807 := by unfold maxLen at jm4; omega
  clear hxs4 km4 jm4
  obtain ⟨xs5, hxs5⟩ : ∃ y, x.princs = y := ⟨_, rfl⟩
  rw [hxs5] at kc5 jc5 hA5 hB5 ⊢
  obtain ⟨L5, hL5⟩ : ∃ y, xs5.length = y := ⟨_, rfl⟩
  rw [hL5] at kc5 jc5 ⊢
  have q5 : k5 ≤ 9223372036854775807 := by unfold maxLen at km5; omega
  have r5 : j5 ≤ 9223372036854775807 := by unfold maxLen at jm5; omega
  clear hxs5 km5 jm5
  obtain ⟨xs6, hxs6⟩ : ∃ y, x.permit = y := ⟨_, rfl⟩
  rw [hxs6] at kc6 jc6 hA6 hB6 ⊢
  obtain ⟨L6, hL6⟩ : ∃ y, xs6.length = y := ⟨_, rfl⟩
  rw [hL6] at kc6 jc6 ⊢
  have q6 : k6 ≤ 9223372036854775807 := by unfold maxLen at km6; omega
  have r6 : j6 ≤ 9223372036854775807 := by unfold maxLen at jm6; omega
  clear hxs6 km6 jm6
  obtain ⟨xs7, hxs7⟩ : ∃ y, x.exclude = y := ⟨_, rfl⟩
  rw [hxs7] at kc7 jc7 hA7 hB7 ⊢
  obtain ⟨L7, hL7⟩ : ∃ y, xs7.length = y := ⟨_, rfl⟩
  rw [hL7] at kc7 jc7 ⊢
  have q7 : k7 ≤ 9223372036854775807 := by unfold maxLen at km7; omega
  have r7 : j7 ≤ 9223372036854775807 := by unfold maxLen at jm7; omega
  clear hxs7 km7 jm7
  obtain ⟨xs8, hxs8⟩ : ∃ y, x.odd = y := ⟨_, rfl⟩
  rw [hxs8] at kc8 jc8 hA8 hB8 ⊢
  obtain ⟨L8, hL8⟩ : ∃ y, xs8.length = y := ⟨_, rfl⟩
  rw [hL8] at kc8 jc8 ⊢
  have q8 : k8 ≤ 9223372036854775807 := by unfold maxLen at km8; omega
  have r8 : j8 ≤ 9223372036854775807 := by unfold maxLen at jm8; omega
  clear hxs8 km8 jm8
  obtain ⟨b0, hb0⟩ : ∃ y, x.hasCA = y := ⟨_, rfl⟩
  obtain ⟨b1, hb1⟩ : ∃ y, x.ca = y := ⟨_, rfl⟩
  obtain ⟨b2, hb2⟩ : ∃ y, x.path = y := ⟨_, rfl⟩
  obtain ⟨b3, hb3⟩ : ∃ y, x.usage = y := ⟨_, rfl⟩
  rw [hb0, hb1, hb2, hb3]
  clear hb0 hb1 hb2 hb3
  have z0 : (b0 != b0) = false := by cases b0 <;> rfl
  have z1 : (b1 != b1) = false := by cases b1 <;> rfl
  have z2 : (b2 != b2) = false := by simp
  have z3 : (b3 != b3) = false := by simp
  obtain ⟨W0, hW0⟩ : ∃ y, (w.alloc (.cells #[.bool b0, .bool b1, .int .i64 b2, .int .u16 b3, .slice A4 L4 k4, .slice A5 L5 k5, .slice A6 L6 k6, .slice A7 L7 k7, .slice A8 L8 k8] 28)).alloc (.cells #[.bool b0, .bool b1, .int .i64 b2, .int .u16 b3, .slice B4 L4 j4, .slice B5 L5 j5, .slice B6 L6 j6, .slice B7 L7 j7, .slice B8 L8 j8] 28) = y := ⟨_, rfl⟩
  have hb0 : Below w.heap.size w W0 := by rw [← hW0]; exact (below_new _ _).alloc (by simp) _
  have p0 : W0.heap[w.heap.size + 1]? = some (.cells #[.bool b0, .bool b1, .int .i64 b2, .int .u16 b3, .slice B4 L4 j4, .slice B5 L5 j5, .slice B6 L6 j6, .slice B7 L7 j7, .slice B8 L8 j8] 28) := by rw [← hW0]; exact heap_is (by simp)
  have q0 : W0.heap[w.heap.size]? = some (.cells #[.bool b0, .bool b1, .int .i64 b2, .int .u16 b3, .slice A4 L4 k4, .slice A5 L5 k5, .slice A6 L6 k6, .slice A7 L7 k7, .slice A8 L8 k8] 28) := by rw [← hW0, heap_old_ _ _ (by simp)]; exact heap_new_ _ _
  obtain ⟨s0, s1, s2, s3, s4, s5, s6, s7, s8⟩ := box9 (Below.refl _ W0) q0
  obtain ⟨t0, t1, t2, t3, t4, t5, t6, t7, t8⟩ := box9 (Below.refl _ W0) p0
  have HX4 := Lib.hid (fun W (hW : Below W0.heap.size W0 W) => And.intro (cell_on hW s4) (cell_on hW t4))
  have HL4 := Lib.hid (And.intro hL4 (And.intro hA4 hB4))
  have HX5 := Lib.hid (fun W (hW : Below W0.heap.size W0 W) => And.intro (cell_on hW s5) (cell_on hW t5))
  have HL5 := Lib.hid (And.intro hL5 (And.intro hA5 hB5))
  have HX6 := Lib.hid (fun W (hW : Below W0.heap.size W0 W) => And.intro (cell_on hW s6) (cell_on hW t6))
  have HL6 := Lib.hid (And.intro hL6 (And.intro hA6 hB6))
  have HX7 := Lib.hid (fun W (hW : Below W0.heap.size W0 W) => And.intro (cell_on hW s7) (cell_on hW t7))
  have HL7 := Lib.hid (And.intro hL7 (And.intro hA7 hB7))
  have HX8 := Lib.hid (fun W (hW : Below W0.heap.size W0 W) => And.intro (cell_on hW s8) (cell_on hW t8))
  have HL8 := Lib.hid (And.intro hL8 (And.intro hA8 hB8))
  have HB := Lib.hid hb0
  clear hb0 p0 q0 hL4 hA4 hB4 hL5 hA5 hB5 hL6 hA6 hB6 hL7 hA7 hB7 hL8 hA8 hB8
  go_enter Tryz.func15, Tryz.ntmps15
  go_wp2_with fail
  clear s0 s1 s2 s3 s4 s5 s6 s7 s8 t0 t1 t2 t3 t4 t5 t6 t7 t8 z0 z1 z2 z3
  go_loopg [5] (L4 + 1) (fun gk s wx => ∃ (i : Nat), s = .int .i64 i ∧ i ≤ L4 ∧ L4 - i < gk ∧ Hid (Below W0.heap.size W0 wx))
  case atStart => exact ⟨0, rfl, by omega, by omega, Lib.hid (Below.refl _ _)⟩
  case round =>
    obtain ⟨i, rfl, hi, hgk, HI4⟩ := hrel
    obtain ⟨u4, v4⟩ := HX4.out wr HI4.out
    by_cases hlt : i < L4
    · have hltz : (i : Int) < (L4 : Int) := by omega
      obtain ⟨gk', rfl⟩ : ∃ g', gk = g' + 1 := ⟨gk - 1, by omega⟩
      have HN := Lib.hid (And.intro (show i + 1 ≤ L4 from hlt) (show L4 - (i + 1) < gk' by omega))
      have hix : i < xs4.length := by rw [HL4.out.1]; exact hlt
      have hbw := below_then HB.out HI4.out (Nat.le_refl _)
      obtain ⟨g, off, cs, rfl, hg, hcell, hold⟩ := (HL4.out.2.1.below hbw).at i hix
      obtain ⟨g', off', cs', rfl, hg', hcell', hold'⟩ := (HL4.out.2.2.below hbw).at i hix
      obtain ⟨y, hy⟩ : ∃ y, xs4[i] = y := ⟨_, rfl⟩
      rw [hy] at hold hold'
      clear hy
      obtain ⟨e0, rfl, a, la, ca, rfl, h1, h2, h3, h4⟩ := hold
      obtain ⟨e0', rfl, a', la', ca', rfl, h1', h2', h3', h4'⟩ := hold'
      have hE := fun W (hW : Below wr.heap.size wr W) => isame_b a a' la ca la' ca' y y W (h3.below hW) (h3'.below hW) (Nat.le_trans h1 h2)
      rw [decide_eq_true rfl] at hE
      have e0 := hcell 0 _ rfl
      have e0' := hcell' 0 _ rfl
      rw [show inE.sz = 1 from rfl] at e0 e0'
      simp only [Nat.add_zero, Nat.mul_one] at e0 e0'
      have g0 := fun (d : Nat) (os : Array Obj) => cell_on (below_regrown wr d os) e0
      have g0' := fun (d : Nat) (os : Array Obj) => cell_on (below_regrown wr d os) e0'
      have f0 := fun (d : Nat) (os : Array Obj) => cell_on (below_regrown wr d os) u4
      have f1 := fun (d : Nat) (os : Array Obj) => cell_on (below_regrown wr d os) v4
      have i1 : (0 : Int) ≤ (i : Int) := by omega
      have HE := Lib.hid (fun (d : Nat) (os : Array Obj) => hE _ (below_regrown wr d os))
      clear hE hcell hcell' hgk hbw e0 e0' h1 h2 h3 h1' h2' h3'
      go_wp2_with fail
      clear u4 v4
      try dsimp only
      refine wp_region_quiet_below (by kernel_rfl) (by kernel_rfl) ?_
      repeat (go_big_quiet_step ((first | (go_at_call 31; refine Calls.regrown_of (HE.out _ _)))))
      refine wpQuiet_nil ?_
      intro _ hw'
      obtain ⟨⟨nq, osq⟩, hw''⟩ := hw'
      subst hw''
      have HF := Lib.hid (below_then HI4.out (below_regrown wr nq osq) (Nat.le_refl _))
      clear f0 f1 g0 g0'
      go_wp2
      go_roundg gk'
      case measure => omega
      case rel => exact ⟨i + 1, by go_num, HN.out.1, HN.out.2, HF⟩
    · obtain rfl : L4 = i := by omega
      have hltz : ¬ (L4 : Int) < (L4 : Int) := by omega
      clear hgk
      go_wp2_with fail
      clear u4 v4 hltz hlt hi
      go_loopg [6] (L5 + 1) (fun gk s wx => ∃ (i : Nat), s = .int .i64 i ∧ i ≤ L5 ∧ L5 - i < gk ∧ Hid (Below W0.heap.size W0 wx))
      case atStart => exact ⟨0, rfl, by omega, by omega, HI4⟩
      case round =>
        obtain ⟨i, rfl, hi, hgk, HI5⟩ := hrel
        clear HI4
        obtain ⟨u5, v5⟩ := HX5.out wr HI5.out
        by_cases hlt : i < L5
        · have hltz : (i : Int) < (L5 : Int) := by omega
          obtain ⟨gk', rfl⟩ : ∃ g', gk = g' + 1 := ⟨gk - 1, by omega⟩
          have HN := Lib.hid (And.intro (show i + 1 ≤ L5 from hlt) (show L5 - (i + 1) < gk' by omega))
          have hix : i < xs5.length := by rw [HL5.out.1]; exact hlt
          have hbw := below_then HB.out HI5.out (Nat.le_refl _)
          obtain ⟨g, off, cs, rfl, hg, hcell, hold⟩ := (HL5.out.2.1.below hbw).at i hix
          obtain ⟨g', off', cs', rfl, hg', hcell', hold'⟩ := (HL5.out.2.2.below hbw).at i hix
          obtain ⟨y, hy⟩ : ∃ y, xs5[i] = y := ⟨_, rfl⟩
          rw [hy] at hold hold'
          clear hy
          obtain ⟨e0, e1, rfl, hp⟩ := hold
          obtain ⟨e0', e1', rfl, hp'⟩ := hold'
          have hE := fun W (hW : Below wr.heap.size wr W) => ralikeP_self _ _ y e0 e1 e0' e1' W (hp.below hW) (hp'.below hW)
          obtain ⟨a, ca, rfl, rfl, _⟩ := hp
          obtain ⟨a', ca', rfl, rfl, _⟩ := hp'
          have e0 := hcell 0 _ rfl
          have e0' := hcell' 0 _ rfl
          have e1 := hcell 1 _ rfl
          have e1' := hcell' 1 _ rfl
          rw [show prE.sz = 2 from rfl] at e0 e0' e1 e1'
          simp only [Nat.add_zero, Nat.mul_one] at e0 e0' e1 e1'
          have g0 := fun (d : Nat) (os : Array Obj) => cell_on (below_regrown wr d os) e0
          have g0' := fun (d : Nat) (os : Array Obj) => cell_on (below_regrown wr d os) e0'
          have g1 := fun (d : Nat) (os : Array Obj) => cell_on (below_regrown wr d os) e1
          have g1' := fun (d : Nat) (os : Array Obj) => cell_on (below_regrown wr d os) e1'
          have f0 := fun (d : Nat) (os : Array Obj) => cell_on (below_regrown wr d os) u5
          have f1 := fun (d : Nat) (os : Array Obj) => cell_on (below_regrown wr d os) v5
          have i1 : (0 : Int) ≤ (i : Int) := by omega
          have HE := Lib.hid (fun (d : Nat) (os : Array Obj) => hE _ (below_regrown wr d os))
          clear hE hcell hcell' hgk hbw e0 e0' e1 e1'
          go_wp2_with fail
          clear u5 v5
          try dsimp only
          refine wp_region_quiet_below (by kernel_rfl) (by kernel_rfl) ?_
          repeat (go_big_quiet_step ((first | (go_at_call 32; refine Calls.regrown_of (HE.out _ _)))))
          refine wpQuiet_nil ?_
          intro _ hw'
          obtain ⟨⟨nq, osq⟩, hw''⟩ := hw'
          subst hw''
          have HF := Lib.hid (below_then HI5.out (below_regrown wr nq osq) (Nat.le_refl _))
          clear f0 f1 g0 g0' g1 g1'
          go_wp2
          go_roundg gk'
          case measure => omega
          case rel => exact ⟨i + 1, by go_num, HN.out.1, HN.out.2, HF⟩
        · obtain rfl : L5 = i := by omega
          have hltz : ¬ (L5 : Int) < (L5 : Int) := by omega
          clear hgk
          go_wp2_with fail
          clear u5 v5 hltz hlt hi
          go_loopg [7] (L6 + 1) (fun gk s wx => ∃ (i : Nat), s = .int .i64 i ∧ i ≤ L6 ∧ L6 - i < gk ∧ Hid (Below W0.heap.size W0 wx))
          case atStart => exact ⟨0, rfl, by omega, by omega, HI5⟩
          case round =>
            obtain ⟨i, rfl, hi, hgk, HI6⟩ := hrel
            clear HI5
            obtain ⟨u6, v6⟩ := HX6.out wr HI6.out
            by_cases hlt : i < L6
            · have hltz : (i : Int) < (L6 : Int) := by omega
              obtain ⟨gk', rfl⟩ : ∃ g', gk = g' + 1 := ⟨gk - 1, by omega⟩
              have HN := Lib.hid (And.intro (show i + 1 ≤ L6 from hlt) (show L6 - (i + 1) < gk' by omega))
              have hix : i < xs6.length := by rw [HL6.out.1]; exact hlt
              have hbw := below_then HB.out HI6.out (Nat.le_refl _)
              obtain ⟨g, off, cs, rfl, hg, hcell, hold⟩ := (HL6.out.2.1.below hbw).at i hix
              obtain ⟨g', off', cs', rfl, hg', hcell', hold'⟩ := (HL6.out.2.2.below hbw).at i hix
              obtain ⟨y, hy⟩ : ∃ y, xs6[i] = y := ⟨_, rfl⟩
              rw [hy] at hold hold'
              clear hy
              obtain ⟨e0, rfl, a, ca, rfl, h1, h2, h3⟩ := hold
              obtain ⟨e0', rfl, a', ca', rfl, h1', h2', h3'⟩ := hold'
              obtain ⟨n, hn⟩ : ∃ n, y.length = n := ⟨_, rfl⟩
              have hE := fun W (hW : Below wr.heap.size wr W) => ralike_self _ _ a a' n ca ca' y W hn (h3.below hW) (h3'.below hW) (by omega) h2 (by omega) h2'
              rw [hn] at hcell hcell'
              have e0 := hcell 0 _ rfl
              have e0' := hcell' 0 _ rfl
              rw [show nmE.sz = 1 from rfl] at e0 e0'
              simp only [Nat.add_zero, Nat.mul_one] at e0 e0'
              have g0 := fun (d : Nat) (os : Array Obj) => cell_on (below_regrown wr d os) e0
              have g0' := fun (d : Nat) (os : Array Obj) => cell_on (below_regrown wr d os) e0'
              have f0 := fun (d : Nat) (os : Array Obj) => cell_on (below_regrown wr d os) u6
              have f1 := fun (d : Nat) (os : Array Obj) => cell_on (below_regrown wr d os) v6
              have i1 : (0 : Int) ≤ (i : Int) := by omega
              have HE := Lib.hid (fun (d : Nat) (os : Array Obj) => hE _ (below_regrown wr d os))
              clear hE hcell hcell' hgk hbw e0 e0' h1 h2 h3 h1' h2' h3' hn
              go_wp2_with fail
              clear u6 v6
              try dsimp only
              refine wp_region_quiet_below (by kernel_rfl) (by kernel_rfl) ?_
              repeat (go_big_quiet_step ((first | (go_at_call 33; refine Calls.regrown_of (HE.out _ _)))))
              refine wpQuiet_nil ?_
              intro _ hw'
              obtain ⟨⟨nq, osq⟩, hw''⟩ := hw'
              subst hw''
              have HF := Lib.hid (below_then HI6.out (below_regrown wr nq osq) (Nat.le_refl _))
              clear f0 f1 g0 g0'
              go_wp2
              go_roundg gk'
              case measure => omega
              case rel => exact ⟨i + 1, by go_num, HN.out.1, HN.out.2, HF⟩
            · obtain rfl : L6 = i := by omega
              have hltz : ¬ (L6 : Int) < (L6 : Int) := by omega
              clear hgk
              go_wp2_with fail
              clear u6 v6 hltz hlt hi
              go_loopg [8] (L7 + 1) (fun gk s wx => ∃ (i : Nat), s = .int .i64 i ∧ i ≤ L7 ∧ L7 - i < gk ∧ Hid (Below W0.heap.size W0 wx))
              case atStart => exact ⟨0, rfl, by omega, by omega, HI6⟩
              case round =>
                obtain ⟨i, rfl, hi, hgk, HI7⟩ := hrel
                clear HI6
                obtain ⟨u7, v7⟩ := HX7.out wr HI7.out
                by_cases hlt : i < L7
                · have hltz : (i : Int) < (L7 : Int) := by omega
                  obtain ⟨gk', rfl⟩ : ∃ g', gk = g' + 1 := ⟨gk - 1, by omega⟩
                  have HN := Lib.hid (And.intro (show i + 1 ≤ L7 from hlt) (show L7 - (i + 1) < gk' by omega))
                  have hix : i < xs7.length := by rw [HL7.out.1]; exact hlt
                  have hbw := below_then HB.out HI7.out (Nat.le_refl _)
                  obtain ⟨g, off, cs, rfl, hg, hcell, hold⟩ := (HL7.out.2.1.below hbw).at i hix
                  obtain ⟨g', off', cs', rfl, hg', hcell', hold'⟩ := (HL7.out.2.2.below hbw).at i hix
                  obtain ⟨y, hy⟩ : ∃ y, xs7[i] = y := ⟨_, rfl⟩
                  rw [hy] at hold hold'
                  clear hy
                  obtain ⟨e0, rfl, a, ca, rfl, h1, h2, h3⟩ := hold
                  obtain ⟨e0', rfl, a', ca', rfl, h1', h2', h3'⟩ := hold'
                  obtain ⟨n, hn⟩ : ∃ n, y.length = n := ⟨_, rfl⟩
                  have hE := fun W (hW : Below wr.heap.size wr W) => ralike_self _ _ a a' n ca ca' y W hn (h3.below hW) (h3'.below hW) (by omega) h2 (by omega) h2'
                  rw [hn] at hcell hcell'
                  have e0 := hcell 0 _ rfl
                  have e0' := hcell' 0 _ rfl
                  rw [show nmE.sz = 1 from rfl] at e0 e0'
                  simp only [Nat.add_zero, Nat.mul_one] at e0 e0'
                  have g0 := fun (d : Nat) (os : Array Obj) => cell_on (below_regrown wr d os) e0
                  have g0' := fun (d : Nat) (os : Array Obj) => cell_on (below_regrown wr d os) e0'
                  have f0 := fun (d : Nat) (os : Array Obj) => cell_on (below_regrown wr d os) u7
                  have f1 := fun (d : Nat) (os : Array Obj) => cell_on (below_regrown wr d os) v7
                  have i1 : (0 : Int) ≤ (i : Int) := by omega
                  have HE := Lib.hid (fun (d : Nat) (os : Array Obj) => hE _ (below_regrown wr d os))
                  clear hE hcell hcell' hgk hbw e0 e0' h1 h2 h3 h1' h2' h3' hn
                  go_wp2_with fail
                  clear u7 v7
                  try dsimp only
                  refine wp_region_quiet_below (by kernel_rfl) (by kernel_rfl) ?_
                  repeat (go_big_quiet_step ((first | (go_at_call 33; refine Calls.regrown_of (HE.out _ _)))))
                  refine wpQuiet_nil ?_
                  intro _ hw'
                  obtain ⟨⟨nq, osq⟩, hw''⟩ := hw'
                  subst hw''
                  have HF := Lib.hid (below_then HI7.out (below_regrown wr nq osq) (Nat.le_refl _))
                  clear f0 f1 g0 g0'
                  go_wp2
                  go_roundg gk'
                  case measure => omega
                  case rel => exact ⟨i + 1, by go_num, HN.out.1, HN.out.2, HF⟩
                · obtain rfl : L7 = i := by omega
                  have hltz : ¬ (L7 : Int) < (L7 : Int) := by omega
                  clear hgk
                  go_wp2_with fail
                  clear u7 v7 hltz hlt hi
                  go_loopg [9] (L8 + 1) (fun gk s wx => ∃ (i : Nat), s = .int .i64 i ∧ i ≤ L8 ∧ L8 - i < gk ∧ Hid (Below W0.heap.size W0 wx))
                  case atStart => exact ⟨0, rfl, by omega, by omega, HI7⟩
                  case round =>
                    obtain ⟨i, rfl, hi, hgk, HI8⟩ := hrel
                    clear HI7
                    obtain ⟨u8, v8⟩ := HX8.out wr HI8.out
                    by_cases hlt : i < L8
                    · have hltz : (i : Int) < (L8 : Int) := by omega
                      obtain ⟨gk', rfl⟩ : ∃ g', gk = g' + 1 := ⟨gk - 1, by omega⟩
                      have HN := Lib.hid (And.intro (show i + 1 ≤ L8 from hlt) (show L8 - (i + 1) < gk' by omega))
                      have hix : i < xs8.length := by rw [HL8.out.1]; exact hlt
                      have hbw := below_then HB.out HI8.out (Nat.le_refl _)
                      obtain ⟨g, off, cs, rfl, hg, hcell, hold⟩ := (HL8.out.2.1.below hbw).at i hix
                      obtain ⟨g', off', cs', rfl, hg', hcell', hold'⟩ := (HL8.out.2.2.below hbw).at i hix
                      obtain ⟨y, hy⟩ : ∃ y, xs8[i] = y := ⟨_, rfl⟩
                      rw [hy] at hold hold'
                      clear hy
                      obtain ⟨e0, e1, e2, rfl, ⟨a, la, ca, rfl, h1, h2, h3, h4⟩, rfl, ⟨b, lb, cb, rfl, m1, m2, m3, m4⟩⟩ := hold
                      obtain ⟨e0', e1', e2', rfl, ⟨a', la', ca', rfl, h1', h2', h3', h4'⟩, rfl, ⟨b', lb', cb', rfl, m1', m2', m3', m4'⟩⟩ := hold'
                      have hE := fun W (hW : Below wr.heap.size wr W) => isame_b a a' la ca la' ca' y.oid y.oid W (h3.below hW) (h3'.below hW) (Nat.le_trans h1 h2)
                      rw [decide_eq_true rfl] at hE
                      have hv := fun (d : Nat) (os : Array Obj) => intc.str_now (m3.below (below_regrown wr d os)) cb
                      have hv' := fun (d : Nat) (os : Array Obj) => intc.str_now (m3'.below (below_regrown wr d os)) cb'
                      obtain ⟨S, hS⟩ : ∃ x, strOfNums y.body = x := ⟨_, rfl⟩
                      rw [hS] at hv hv'
                      obtain ⟨cr, hcr⟩ : ∃ x, y.crit = x := ⟨_, rfl⟩
                      rw [hcr] at hcell hcell'
                      have zc : (cr != cr) = false := by cases cr <;> rfl
                      clear hS hcr m1 m2 m3 m4 m1' m2' m3' m4' h4 h4'
                      have e0 := hcell 0 _ rfl
                      have e0' := hcell' 0 _ rfl
                      have e1 := hcell 1 _ rfl
                      have e1' := hcell' 1 _ rfl
                      have e2 := hcell 2 _ rfl
                      have e2' := hcell' 2 _ rfl
                      rw [show odE.sz = 3 from rfl] at e0 e0' e1 e1' e2 e2'
                      simp only [Nat.add_zero, Nat.mul_one] at e0 e0' e1 e1' e2 e2'
                      have g0 := fun (d : Nat) (os : Array Obj) => cell_on (below_regrown wr d os) e0
                      have g0' := fun (d : Nat) (os : Array Obj) => cell_on (below_regrown wr d os) e0'
                      have g1 := fun (d : Nat) (os : Array Obj) => cell_on (below_regrown wr d os) e1
                      have g1' := fun (d : Nat) (os : Array Obj) => cell_on (below_regrown wr d os) e1'
                      have g2 := fun (d : Nat) (os : Array Obj) => cell_on (below_regrown wr d os) e2
                      have g2' := fun (d : Nat) (os : Array Obj) => cell_on (below_regrown wr d os) e2'
                      have f0 := fun (d : Nat) (os : Array Obj) => cell_on (below_regrown wr d os) u8
                      have f1 := fun (d : Nat) (os : Array Obj) => cell_on (below_regrown wr d os) v8
                      have i1 : (0 : Int) ≤ (i : Int) := by omega
                      have HE := Lib.hid (fun (d : Nat) (os : Array Obj) => hE _ (below_regrown wr d os))
                      clear hE hcell hcell' hgk hbw e0 e0' e1 e1' e2 e2' h1 h2 h3 h1' h2' h3'
                      go_wp2_with fail
                      clear u8 v8
                      try dsimp only
                      refine wp_region_quiet_below (by kernel_rfl) (by kernel_rfl) ?_
                      repeat (go_big_quiet_step ((first | (go_at_call 31; refine Calls.regrown_of (HE.out _ _)))))
                      refine wpQuiet_nil ?_
                      intro _ hw'
                      obtain ⟨⟨nq, osq⟩, hw''⟩ := hw'
                      subst hw''
                      have HF := Lib.hid (below_then HI8.out (below_regrown wr nq osq) (Nat.le_refl _))
                      clear f0 f1 g0 g0' g1 g1' g2 g2' hv hv'
                      go_wp2
                      go_roundg gk'
                      case measure => omega
                      case rel => exact ⟨i + 1, by go_num, HN.out.1, HN.out.2, HF⟩
                    · obtain rfl : L8 = i := by omega
                      have hltz : ¬ (L8 : Int) < (L8 : Int) := by omega
                      clear hgk
                      go_wp2
                      go_ret
                      exact ⟨rfl, below_then HB.out HI8.out (Nat.le_refl _)⟩
end Go.Proofs.YtdcpggodlggjjaaGreatDoor.nmc
namespace Go.Proofs.YtdcpggodlggjjaaGreatDoor.extsBack
open Go.ChangeShapes Go.WideShapes Go.ChangeAt Go.RowKit
set_option linter.unusedVariables false

theorem own : ownKnob Tryz.prog.godebug = none := by kernel_rfl
theorem laidOut : laidOutB Tryz.prog = true := by kernel_rfl

open Go.Proofs.YtdcpggodlggjjaaGreatDoor.tlvc Go.Proofs.YtdcpggodlggjjaaGreatDoor.tlvd Go.Proofs.YtdcpggodlggjjaaGreatDoor.ndc Go.Proofs.YtdcpggodlggjjaaGreatDoor.txc Go.Proofs.YtdcpggodlggjjaaGreatDoor.nmc
theorem cells9 {l : List Value} (h : l.length = 9) : ∃ a0 a1 a2 a3 a4 a5 a6 a7 a8, l = [a0, a1, a2, a3, a4, a5, a6, a7, a8] := by
  match l, h with
  | [a0, a1, a2, a3, a4, a5, a6, a7, a8], _ => exact ⟨a0, a1, a2, a3, a4, a5, a6, a7, a8, rfl⟩

set_option maxRecDepth 100000 in
set_option maxHeartbeats 32000000 in
theorem walk (x0 : List dtc.Dt) (c0_0 c0_1 c0_2 c0_3 c0_4 c0_5 c0_6 c0_7 c0_8 : Value) (n1 : ndc.Nd) (c1_0 c1_1 c1_2 : Value) (w : World) (s0 : dtc.IsShs [.bool, .bool, .int .i64, .int .u16, .row (.row (.int .i64)), .row (.agg [.str, .row (.str)]), .row (.row (.agg [.row (.int .i64), .str])), .row (.row (.agg [.row (.int .i64), .str])), .row (.agg [.row (.int .i64), .bool, .bys])] x0) (w0 : dtc.LiesAll (fun _ => True) w x0 [c0_0, c0_1, c0_2, c0_3, c0_4, c0_5, c0_6, c0_7, c0_8]) (y0 : dtc.fitDts x0) (w1 : ndc.NdC (fun _ => True) w n1 c1_0 c1_1 c1_2) (hT : txc.Tabs w) :
    Calls Tryz.prog 5 #[.agg #[c0_0, c0_1, c0_2, c0_3, c0_4, c0_5, c0_6, c0_7, c0_8], .agg #[c1_0, c1_1, c1_2]] w fun e w' => e = .returned (.bool true) ∧ Below w.heap.size w w' := by
  obtain ⟨x, hx⟩ := ex_of s0 w0 y0
  obtain ⟨a0, a1, a2, a3, aA4, al4, ac4, aA5, al5, ac5, aA6, al6, ac6, aA7, al7, ac7, aA8, al8, ac8, rfl, rfl, rfl, rfl, rfl, rfl, rfl, rfl, rfl⟩ := exC_shape hx
  obtain ⟨tk, Ak, lk, ik, Kk, mk, nk, ec0, ec1, ec2⟩ := w1.shape
  subst ec0 ec1 ec2
  obtain ⟨W0, hW0⟩ : ∃ z, (w.alloc (.cells #[.bool a0, .bool a1, .int .i64 a2, .int .u16 a3, .slice aA4 al4 ac4, .slice aA5 al5 ac5, .slice aA6 al6 ac6, .slice aA7 al7 ac7, .slice aA8 al8 ac8] 28)).alloc (.cells #[.int .u8 tk, .slice Ak lk ik, .slice Kk mk nk] 33) = z := ⟨_, rfl⟩
  have hb0 : Below w.heap.size w W0 := by rw [← hW0]; exact (below_new _ _).alloc (by simp) _
  have p0 : W0.heap[w.heap.size]? = some (.cells #[.bool a0, .bool a1, .int .i64 a2, .int .u16 a3, .slice aA4 al4 ac4, .slice aA5 al5 ac5, .slice aA6 al6 ac6, .slice aA7 al7 ac7, .slice aA8 al8 ac8] 28) := by rw [← hW0, heap_old_ _ _ (by simp)]; exact heap_new_ _ _
  have q0 : W0.heap[w.heap.size + 1]? = some (.cells #[.int .u8 tk, .slice Ak lk ik, .slice Kk mk nk] 33) := by rw [← hW0]; exact heap_is (by simp)
  have hbw := fun W (hW : Below W0.heap.size W0 W) => below_then hb0 hW (Nat.le_refl _)
  have HTT := Lib.hid (fun W hW => hT.below (hbw W hW))
  have hnd : ∀ W, Below W0.heap.size W0 W → NdC (fun _ => True) W n1 (.int .u8 tk) (.slice Ak lk ik) (.slice Kk mk nk) := fun W hW => NdC.below (hbw W hW) _ _ _ _ w1
  have HBX := Lib.hid (fun W (hW : Below W0.heap.size W0 W) => box9 hW p0)
  have HKX := Lib.hid (fun W (hW : Below W0.heap.size W0 W) => box_nd hW q0)
  have HXX := Lib.hid (fun W (hW : Below W0.heap.size W0 W) => hx.below (hbw W hW))
  have HND := Lib.hid hnd
  have HHD := Lib.hid (head10_any W0 (hT.below hb0))
  have hput := fun W (hW : Below W0.heap.size W0 W) => putE_any _ x _ _ _ _ _ _ _ _ _ W (hx.below (hbw W hW)) (hT.below (hbw W hW))
  rw [putX_right hx.u16] at hput
  obtain ⟨P, hP⟩ : ∃ z, partsF n1 5000 = z := ⟨_, rfl⟩
  have hpar := fun (W : World) (hW : Below W0.heap.size W0 W) => parts_of _ n1 (Nat.le_refl _) (.agg #[.int .u8 tk, .slice Ak lk ik, .slice Kk mk nk]) 5000 W ⟨_, _, _, rfl, hnd W hW⟩ (by omega) (by omega)
  rw [hP] at hpar
  have HPAR := Lib.hid hpar
  have HBW := Lib.hid hbw
  have hge := fun W (hW : Below W0.heap.size W0 W) => getE_any _ n1 _ _ _ W (hnd W hW) (hT.below (hbw W hW))
  obtain ⟨rr, hrr⟩ : ∃ z, rightX x = z := ⟨_, rfl⟩
  rw [hrr] at hput
  have HPUT := Lib.hid hput
  obtain ⟨gg, hgg⟩ : ∃ z, getX n1 = z := ⟨_, rfl⟩
  rw [hgg] at hge
  have HGE := Lib.hid hge
  have HRG := Lib.hid (And.intro hrr (And.intro hgg hx.u16))
  clear hput hge hpar hP hrr hgg hbw hnd p0 q0 hb0 hT hx w0 w1 y0 s0
  go_enter Tryz.func5, Tryz.ntmps5
  go_wp2_with fail
  refine HHD.out.mono ?_
  rintro e wa ⟨rfl, hba⟩
  have HA := Lib.hid hba
  have HC := Lib.hid (HPUT.out wa hba)
  obtain ⟨u0, u1, u2, u3, u4, u5, u6, u7, u8⟩ := HBX.out wa hba
  clear hba HHD HPUT hW0
  go_wp2_with fail
  refine HC.out.mono ?_
  rintro e wb ⟨hbb, hpost⟩
  have hb1 := below_then HA.out hbb (Nat.le_refl _)
  clear u0 u1 u2 u3 u4 u5 u6 u7 u8
  cases rr
  · rw [if_neg (by decide)] at hpost
    obtain rfl := hpost
    have HB := Lib.hid (below_then hb1 (below_new wb (.cells #[.int .u8 0, .slice none 0 0, .slice none 0 0] 33)) (Nat.le_refl _))
    clear hb1 hbb HC HA
    obtain ⟨ka0, ka1, ka2⟩ := HKX.out _ HB.out
    have HC := Lib.hid (HPAR.out _ HB.out)
    go_wp2_with fail
    refine HC.out.mono ?_
    rintro e wp ⟨rfl, hbp⟩
    have HQ := Lib.hid (below_then HB.out hbp (Nat.le_refl _))
    clear hbp HC ka0 ka1 ka2
    by_cases hgt : 5000 < P
    · have HE := Lib.hid (HBW.out _ HQ.out)
      go_wp2_with fail
      go_ret
      exact ⟨rfl, HE.out⟩
    · obtain ⟨ka0, ka1, ka2⟩ := HKX.out _ HQ.out
      have HC := Lib.hid (HGE.out _ HQ.out)
      go_wp2_with fail
      refine HC.out.mono ?_
      rintro e wg ⟨hbg, hpost⟩
      have hb2 := below_then HQ.out hbg (Nat.le_refl _)
      clear hbg HC HQ ka0 ka1 ka2
      cases gg with
      | none =>
        obtain rfl := hpost
        have HE := Lib.hid (HBW.out _ (below_then hb2 (below_new wg (.cells #[.bool false, .bool false, .int .i64 0, .int .u16 0, .slice none 0 0, .slice none 0 0, .slice none 0 0, .slice none 0 0, .slice none 0 0] 28)) (Nat.le_refl _)))
        clear hb2
        go_wp2_with fail
        go_ret
        exact ⟨rfl, HE.out⟩
      | some y =>
        obtain ⟨c0, c1, c2, c3, c4, c5, c6, c7, c8, rfl, hy⟩ := hpost
        obtain ⟨z0, z1, z2, z3, zA4, zl4, zc4, zA5, zl5, zc5, zA6, zl6, zc6, zA7, zl7, zc7, zA8, zl8, zc8, rfl, rfl, rfl, rfl, rfl, rfl, rfl, rfl, rfl⟩ := exC_shape hy
        have hnb := below_new wg (.cells #[.bool z0, .bool z1, .int .i64 z2, .int .u16 z3, .slice zA4 zl4 zc4, .slice zA5 zl5 zc5, .slice zA6 zl6 zc6, .slice zA7 zl7 zc7, .slice zA8 zl8 zc8] 28)
        have hqn := heap_new_ wg (.cells #[.bool z0, .bool z1, .int .i64 z2, .int .u16 z3, .slice zA4 zl4 zc4, .slice zA5 zl5 zc5, .slice zA6 zl6 zc6, .slice zA7 zl7 zc7, .slice zA8 zl8 zc8] 28)
        obtain ⟨u0, u1, u2, u3, u4, u5, u6, u7, u8⟩ := box9 (Below.refl _ _) hqn
        have hb3 := below_then hb2 hnb (Nat.le_refl _)
        have hp := putE_any _ y _ _ _ _ _ _ _ _ _ _ (hy.below hnb) (HTT.out _ hb3)
        obtain ⟨hry, hny⟩ := getX_some HRG.out.2.1
        rw [putX_right hy.u16, hry, if_pos rfl, hny] at hp
        have HC := Lib.hid hp
        have H3 := Lib.hid hb3
        clear hp hb3 hb2 hnb hqn hy hry hny
        go_wp2_with fail
        refine HC.out.mono ?_
        rintro e wq ⟨hbq, t, A, l, i, K, m, n, rfl, hn⟩
        clear u0 u1 u2 u3 u4 u5 u6 u7 u8 HC
        have hnb := below_new wq (.cells #[.int .u8 t, .slice A l i, .slice K m n] 33)
        have hqn := heap_new_ wq (.cells #[.int .u8 t, .slice A l i, .slice K m n] 33)
        have hb4 := below_then (below_then H3.out hbq (Nat.le_refl _)) hnb (Nat.le_refl _)
        obtain ⟨u0, u1, u2⟩ := box_nd (Below.refl _ _) hqn
        obtain ⟨ka0, ka1, ka2⟩ := HKX.out _ hb4
        have HC2 := Lib.hid (same_self _ _ _ _ _ _ _ _ _ _ (NdC.below hnb _ _ _ _ hn) (HND.out _ hb4))
        have H4 := Lib.hid hb4
        clear hnb hqn hb4 hbq hn H3
        go_wp2_with fail
        refine HC2.out.mono ?_
        rintro e wr ⟨rfl, hbr⟩
        have HE := Lib.hid (HBW.out _ (below_then H4.out hbr (Nat.le_refl _)))
        clear HC2 hbr H4 u0 u1 u2 ka0 ka1 ka2
        go_wp2
        go_ret
        exact ⟨rfl, HE.out⟩
  · rw [if_pos rfl] at hpost
    obtain ⟨t1, A1, l1, i1, K1, m1, n1', rfl, hn⟩ := hpost
    have hnb := below_new wb (.cells #[.int .u8 t1, .slice A1 l1 i1, .slice K1 m1 n1'] 33)
    have hqn := heap_new_ wb (.cells #[.int .u8 t1, .slice A1 l1 i1, .slice K1 m1 n1'] 33)
    have hb2 := below_then hb1 hnb (Nat.le_refl _)
    obtain ⟨u0, u1, u2⟩ := box_nd (Below.refl _ _) hqn
    have hg := getE_any _ (nodeX x) _ _ _ _ (NdC.below hnb _ _ _ _ hn) (HTT.out _ hb2)
    rw [getX_node HRG.out.2.2 HRG.out.1] at hg
    have HG := Lib.hid hg
    have HB2 := Lib.hid hb2
    clear hg hb2 hnb hqn hn hb1 hbb HC HA
    go_wp2_with fail
    refine HG.out.mono ?_
    rintro e wc ⟨hbc, c0, c1, c2, c3, c4, c5, c6, c7, c8, rfl, hy⟩
    obtain ⟨z0, z1, z2, z3, zA4, zl4, zc4, zA5, zl5, zc5, zA6, zl6, zc6, zA7, zl7, zc7, zA8, zl8, zc8, rfl, rfl, rfl, rfl, rfl, rfl, rfl, rfl, rfl⟩ := exC_shape hy
    clear u0 u1 u2 HG
    have hnb := below_new wc (.cells #[.bool z0, .bool z1, .int .i64 z2, .int .u16 z3, .slice zA4 zl4 zc4, .slice zA5 zl5 zc5, .slice zA6 zl6 zc6, .slice zA7 zl7 zc7, .slice zA8 zl8 zc8] 28)
    have hqn := heap_new_ wc (.cells #[.bool z0, .bool z1, .int .i64 z2, .int .u16 z3, .slice zA4 zl4 zc4, .slice zA5 zl5 zc5, .slice zA6 zl6 zc6, .slice zA7 zl7 zc7, .slice zA8 zl8 zc8] 28)
    obtain ⟨v0, v1, v2, v3, v4, v5, v6, v7, v8⟩ := box9 (Below.refl _ _) hqn
    have hb3 := below_then (below_then HB2.out hbc (Nat.le_refl _)) hnb (Nat.le_refl _)
    obtain ⟨u0, u1, u2, u3, u4, u5, u6, u7, u8⟩ := HBX.out _ hb3
    have HC := Lib.hid (rsameX_self _ _ x _ _ _ _ _ _ _ _ _ _ _ _ _ _ _ _ _ _ _ (HXX.out _ hb3) (hy.below hnb))
    have HB3 := Lib.hid hb3
    clear hb3 hnb hqn hy hbc HB2
    go_wp2_with fail
    refine HC.out.mono ?_
    rintro e wd ⟨rfl, hbd⟩
    have HB := Lib.hid (below_then HB3.out hbd (Nat.le_refl _))
    clear hbd HC HB3 u0 u1 u2 u3 u4 u5 u6 u7 u8 v0 v1 v2 v3 v4 v5 v6 v7 v8
    obtain ⟨ka0, ka1, ka2⟩ := HKX.out _ HB.out
    have HC := Lib.hid (HPAR.out _ HB.out)
    go_wp2_with fail
    refine HC.out.mono ?_
    rintro e wp ⟨rfl, hbp⟩
    have HQ := Lib.hid (below_then HB.out hbp (Nat.le_refl _))
    clear hbp HC ka0 ka1 ka2
    by_cases hgt : 5000 < P
    · have HE := Lib.hid (HBW.out _ HQ.out)
      go_wp2_with fail
      go_ret
      exact ⟨rfl, HE.out⟩
    · obtain ⟨ka0, ka1, ka2⟩ := HKX.out _ HQ.out
      have HC := Lib.hid (HGE.out _ HQ.out)
      go_wp2_with fail
      refine HC.out.mono ?_
      rintro e wg ⟨hbg, hpost⟩
      have hb2 := below_then HQ.out hbg (Nat.le_refl _)
      clear hbg HC HQ ka0 ka1 ka2
      cases gg with
      | none =>
        obtain rfl := hpost
        have HE := Lib.hid (HBW.out _ (below_then hb2 (below_new wg (.cells #[.bool false, .bool false, .int .i64 0, .int .u16 0, .slice none 0 0, .slice none 0 0, .slice none 0 0, .slice none 0 0, .slice none 0 0] 28)) (Nat.le_refl _)))
        clear hb2
        go_wp2_with fail
        go_ret
        exact ⟨rfl, HE.out⟩
      | some y =>
        obtain ⟨c0, c1, c2, c3, c4, c5, c6, c7, c8, rfl, hy⟩ := hpost
        obtain ⟨z0, z1, z2, z3, zA4, zl4, zc4, zA5, zl5, zc5, zA6, zl6, zc6, zA7, zl7, zc7, zA8, zl8, zc8, rfl, rfl, rfl, rfl, rfl, rfl, rfl, rfl, rfl⟩ := exC_shape hy
        have hnb := below_new wg (.cells #[.bool z0, .bool z1, .int .i64 z2, .int .u16 z3, .slice zA4 zl4 zc4, .slice zA5 zl5 zc5, .slice zA6 zl6 zc6, .slice zA7 zl7 zc7, .slice zA8 zl8 zc8] 28)
        have hqn := heap_new_ wg (.cells #[.bool z0, .bool z1, .int .i64 z2, .int .u16 z3, .slice zA4 zl4 zc4, .slice zA5 zl5 zc5, .slice zA6 zl6 zc6, .slice zA7 zl7 zc7, .slice zA8 zl8 zc8] 28)
        obtain ⟨u0, u1, u2, u3, u4, u5, u6, u7, u8⟩ := box9 (Below.refl _ _) hqn
        have hb3 := below_then hb2 hnb (Nat.le_refl _)
        have hp := putE_any _ y _ _ _ _ _ _ _ _ _ _ (hy.below hnb) (HTT.out _ hb3)
        obtain ⟨hry, hny⟩ := getX_some HRG.out.2.1
        rw [putX_right hy.u16, hry, if_pos rfl, hny] at hp
        have HC := Lib.hid hp
        have H3 := Lib.hid hb3
        clear hp hb3 hb2 hnb hqn hy hry hny
        go_wp2_with fail
        refine HC.out.mono ?_
        rintro e wq ⟨hbq, t, A, l, i, K, m, n, rfl, hn⟩
        clear u0 u1 u2 u3 u4 u5 u6 u7 u8 HC
        have hnb := below_new wq (.cells #[.int .u8 t, .slice A l i, .slice K m n] 33)
        have hqn := heap_new_ wq (.cells #[.int .u8 t, .slice A l i, .slice K m n] 33)
        have hb4 := below_then (below_then H3.out hbq (Nat.le_refl _)) hnb (Nat.le_refl _)
        obtain ⟨u0, u1, u2⟩ := box_nd (Below.refl _ _) hqn
        obtain ⟨ka0, ka1, ka2⟩ := HKX.out _ hb4
        have HC2 := Lib.hid (same_self _ _ _ _ _ _ _ _ _ _ (NdC.below hnb _ _ _ _ hn) (HND.out _ hb4))
        have H4 := Lib.hid hb4
        clear hnb hqn hb4 hbq hn H3
        go_wp2_with fail
        refine HC2.out.mono ?_
        rintro e wr ⟨rfl, hbr⟩
        have HE := Lib.hid (HBW.out _ (below_then H4.out hbr (Nat.le_refl _)))
        clear HC2 hbr H4 u0 u1 u2 ka0 ka1 ka2
        go_wp2
        go_ret
        exact ⟨rfl, HE.out⟩

theorem reads (os : Os) {H : Type} (enc : TypeId × Value → H) : ∃ places, DataW.whole enc Tryz.prog ((txc.laidWorld os).forCall (fun _ _ => 0) ⟨#[], #[.agg #[.bool false, .bool false, .int .i64 0, .int .u16 0, .slice none 0 0, .slice none 0 0, .slice none 0 0, .slice none 0 0, .slice none 0 0], .agg #[.int .u8 0, .slice none 0 0, .slice none 0 0]], []⟩).memory Tryz.f5.params.toList Rows.extsBackSpec.vars false (#[.agg #[.bool false, .bool false, .int .i64 0, .int .u16 0, .slice none 0 0, .slice none 0 0, .slice none 0 0, .slice none 0 0, .slice none 0 0], .agg #[.int .u8 0, .slice none 0 0, .slice none 0 0]] : Array Value).toList 8 = some ([.agg [.lit (.bool false), .lit (.bool false), .lit (.int .i64 0), .lit (.int .u16 0), .nil, .nil, .nil, .nil, .nil], .agg [.lit (.int .u8 0), .nil, .nil]], [], places) :=
  ⟨[], by kernel_rfl⟩
set_option maxRecDepth 100000 in
theorem lifted (os : Os) (started : os.Started) (H : Type) (enc : TypeId × Value → H) (F : Stop.Interp) :
    ReturnsInHanded {} Tryz.checked os 5 .any ((OpenSpec.ofChange Rows.extsBackSpec).preRow enc Tryz.prog Tryz.f5 Rows.extsBackRow.domain false Rows.extsBackRow.laid) (((OpenSpec.ofChange Rows.extsBackSpec).at F).post enc Tryz.prog Tryz.f5 false true false false) := by
  obtain ⟨places, hx⟩ := reads os enc
  refine returnsInHanded_of_row (C := Tryz.checked) (s := (OpenSpec.ofChange Rows.extsBackSpec)) own started (by kernel_rfl) Tryz.func5
    (witness_row_at (enc := enc) (C := Tryz.checked) false (txc.laidWorld os) #[.agg #[.bool false, .bool false, .int .i64 0, .int .u16 0, .slice none 0 0, .slice none 0 0, .slice none 0 0, .slice none 0 0, .slice none 0 0], .agg #[.int .u8 0, .slice none 0 0, .slice none 0 0]] rfl (by kernel_rfl) (by kernel_rfl) (by kernel_rfl)
      (OpenSpec.preRow_of_cond 8 hx (by kernel_rfl) (fun k hk => by cases hk) (by kernel_rfl) (txc.laid_met os _))) ?_
  intro W base args ds gs before hval0 hW hcnd hcond hsz0 hL _ _
  have hval : ∀ (j : Nat) t v, Tryz.f5.params[j]? = some t → args[j]? = some v → Value.okWide Tryz.prog W .any base t v := hval0
  have hW' := hW
  obtain ⟨p, q, hA0, hV, rfl, hfz, hnd⟩ := hW
  have hA : DataW.TrodAll enc Tryz.prog W 0 (fun _ => true) true Tryz.f5.params.toList args.toList ds p := hA0
  have hsz : (DataW.weightsEach Tryz.prog (Tryz.f5.params.toList ++ (OpenSpec.ofChange Rows.extsBackSpec).bare.plain.varTypes Tryz.prog) (ds ++ gs)).all (· ≤ reachBytes) = true := hsz0
  rw [Tryz.params5] at hA hval hsz
  obtain ⟨v0, vs0, d0, ds0, p0, q0, hargs, rfl, rfl, h0, r_0⟩ := trodAll_cons hA
  obtain ⟨v1, vs1, d1, ds1, p1, q1, rfl, rfl, rfl, h1, r_1⟩ := trodAll_cons r_0
  obtain ⟨rfl, rfl, rfl⟩ := trodAll_nil r_1
  obtain rfl : args = #[v0, v1] := by cases args; simp_all
  obtain ⟨rfl, rfl⟩ := trodVars_none hV
  have k0 := h0
  have lt0 : ∀ x ∈ p0, x.block < W.heap.size := by obtain ⟨m, hm⟩ := k0; exact DataW.trod_lt m _ _ _ hm
  obtain ⟨cl0, x0, rfl, cn0, s0, w0, z0⟩ := dtc.open_agg (l := [.bool, .bool, .int .i64, .int .u16, .row (.row (.int .i64)), .row (.agg [.str, .row (.str)]), .row (.row (.agg [.row (.int .i64), .str])), .row (.row (.agg [.row (.int .i64), .str])), .row (.agg [.row (.int .i64), .bool, .bys])]) Tryz.underlying28 (dtc.fit_agg Tryz.underlying28 (by kernel_rfl) (dtc.fits_cons (by kernel_rfl) (dtc.fit_bool Tryz.underlying4 (by kernel_rfl)) (dtc.fits_cons (by kernel_rfl) (dtc.fit_bool Tryz.underlying4 (by kernel_rfl)) (dtc.fits_cons (by kernel_rfl) (dtc.fit_int Tryz.underlying3 (by kernel_rfl)) (dtc.fits_cons (by kernel_rfl) (dtc.fit_int Tryz.underlying22 (by kernel_rfl)) (dtc.fits_cons (by kernel_rfl) (dtc.fit_row Tryz.underlying23 (dtc.fit_row Tryz.underlying51 (dtc.fit_int Tryz.underlying3 (by kernel_rfl)) (by kernel_rfl) (by kernel_rfl)) (by kernel_rfl) (by kernel_rfl)) (dtc.fits_cons (by kernel_rfl) (dtc.fit_row Tryz.underlying24 (dtc.fit_agg Tryz.underlying76 (by kernel_rfl) (dtc.fits_cons (by kernel_rfl) (dtc.fit_str Tryz.underlying9 (by kernel_rfl)) (dtc.fits_cons (by kernel_rfl) (dtc.fit_row Tryz.underlying74 (dtc.fit_str Tryz.underlying9 (by kernel_rfl)) (by kernel_rfl) (by kernel_rfl)) dtc.fits_nil))) (by kernel_rfl) (by kernel_rfl)) (dtc.fits_cons (by kernel_rfl) (dtc.fit_row Tryz.underlying25 (dtc.fit_row Tryz.underlying79 (dtc.fit_agg Tryz.underlying141 (by kernel_rfl) (dtc.fits_cons (by kernel_rfl) (dtc.fit_row Tryz.underlying51 (dtc.fit_int Tryz.underlying3 (by kernel_rfl)) (by kernel_rfl) (by kernel_rfl)) (dtc.fits_cons (by kernel_rfl) (dtc.fit_str Tryz.underlying9 (by kernel_rfl)) dtc.fits_nil))) (by kernel_rfl) (by kernel_rfl)) (by kernel_rfl) (by kernel_rfl)) (dtc.fits_cons (by kernel_rfl) (dtc.fit_row Tryz.underlying25 (dtc.fit_row Tryz.underlying79 (dtc.fit_agg Tryz.underlying141 (by kernel_rfl) (dtc.fits_cons (by kernel_rfl) (dtc.fit_row Tryz.underlying51 (dtc.fit_int Tryz.underlying3 (by kernel_rfl)) (by kernel_rfl) (by kernel_rfl)) (dtc.fits_cons (by kernel_rfl) (dtc.fit_str Tryz.underlying9 (by kernel_rfl)) dtc.fits_nil))) (by kernel_rfl) (by kernel_rfl)) (by kernel_rfl) (by kernel_rfl)) (dtc.fits_cons (by kernel_rfl) (dtc.fit_row Tryz.underlying26 (dtc.fit_agg Tryz.underlying60 (by kernel_rfl) (dtc.fits_cons (by kernel_rfl) (dtc.fit_row Tryz.underlying51 (dtc.fit_int Tryz.underlying3 (by kernel_rfl)) (by kernel_rfl) (by kernel_rfl)) (dtc.fits_cons (by kernel_rfl) (dtc.fit_bool Tryz.underlying4 (by kernel_rfl)) (dtc.fits_cons (by kernel_rfl) (dtc.fit_bys Tryz.underlying30 Tryz.underlying5 (by kernel_rfl) (by kernel_rfl) (by kernel_rfl)) dtc.fits_nil)))) (by kernel_rfl) (by kernel_rfl)) dtc.fits_nil)))))))))) (hval 0 28 v0 rfl rfl) h0
  have y0 := z0 (dtc.each_fit hsz (j := 0) rfl rfl)
  have cn0 : cl0.length = 9 := by simpa [dtc.szs, dtc.Sh.sz] using cn0
  obtain ⟨c0_0, c0_1, c0_2, c0_3, c0_4, c0_5, c0_6, c0_7, c0_8, ecl0⟩ := cells9 cn0
  subst ecl0
  have k1 := h1
  have lt1 : ∀ x ∈ p1, x.block < W.heap.size := by obtain ⟨m, hm⟩ := k1; exact DataW.trod_lt m _ _ _ hm
  obtain ⟨n1, c1_0, c1_1, c1_2, rfl, w1⟩ := ndc.open_nd ({ U := _, f0 := _, f1 := _, f2 := _, hT := Tryz.underlying33, hone := by kernel_rfl, hC := by kernel_rfl, e0 := Tryz.underlying5, e1 := Tryz.underlying30, eU := Tryz.underlying5, cU := by kernel_rfl, e2 := Tryz.underlying31 }) (hval 1 33 v1 rfl rfl) h1
  clear hA0 hval0
  have hT : txc.Tabs W := txc.tabs_of hL
  refine (walk x0 c0_0 c0_1 c0_2 c0_3 c0_4 c0_5 c0_6 c0_7 c0_8 n1 c1_0 c1_1 c1_2 W s0 w0 y0 w1 hT).mono fun e W' ⟨he, bel⟩ => ?_
  subst he
  exact ⟨_, rfl, _, _, _, [], _, [], hW', trodAll_mk1 (shut_bool Tryz.underlying4 _), (trodAll_cons_mk (Below.trod laidOut (by kernel_rfl) (of_decide_eq_true (by kernel_rfl)) k0 bel lt0) (trodAll_cons_mk (Below.trod laidOut (by kernel_rfl) (of_decide_eq_true (by kernel_rfl)) k1 bel lt1) trodAll_mk0)), rfl, bel.frame _, fun h => by cases h⟩

theorem over : Rows.extsBackRow.holds Tryz.pinned (OpenSpec.ofChange Rows.extsBackSpec) :=
  OpenClaim.holds_of_cond 5 Tryz.f5 rfl rfl rfl rfl rfl rfl rfl ⟨rfl, rfl, rfl, rfl, rfl⟩ rfl rfl rfl rfl rfl (by kernel_rfl) Tryz.func5 (by kernel_rfl)
    (of_decide_eq_true (by kernel_rfl)) (by unfold Func.isWrapper; first | (rw [if_pos (by decide +kernel)]; kernel_rfl) | (rw [if_neg (by decide +kernel)]; exact ⟨rfl, rfl⟩))
    (fun os started H enc _ F => by rw [OpenClaim.pre_eq_preRow]; exact lifted os started H enc F)

theorem plain (f : FuncId) (fn : Func) (hf : Tryz.pinned.checked.prog.funcNamed "warder/warderlaw10.ExtsBack" = some f) (hfn : Tryz.pinned.checked.prog.funcs[f]? = some fn) :
    true = Tryz.pinned.checked.prog.looks [] ∧ ∀ (j : Nat) t, fn.params[j]? = some t → Tryz.pinned.checked.prog.wantsStandIn t = false := by
  obtain rfl : f = 5 := Option.some.inj ((show Tryz.prog.funcNamed "warder/warderlaw10.ExtsBack" = some 5 by kernel_rfl).symm.trans hf) |>.symm
  obtain rfl : fn = Tryz.f5 := (Option.some.inj (Tryz.func5.symm.trans hfn)).symm
  refine ⟨by kernel_rfl, fun j t ht => ?_⟩
  rw [Tryz.params5] at ht
  match j, ht with
    | 0, ht => obtain rfl : t = 28 := (Option.some.inj ht).symm; exact (show Tryz.prog.wantsStandIn 28 = false by kernel_rfl)
    | 1, ht => obtain rfl : t = 33 := (Option.some.inj ht).symm; exact (show Tryz.prog.wantsStandIn 33 = false by kernel_rfl)
    | j + 2, ht => simp at ht

theorem proved : Rows.ExtsBackCardSaid :=
  Claim7.holds_tied_plain_at .later [] _ _ _ _ over (fun _ h => by cases h) (by kernel_rfl) (fun _ h => by cases h) extsBack_row_tie rfl ⟨rfl, rfl⟩ (by kernel_rfl) rfl plain (by kernel_rfl)
#print axioms proved
end Go.Proofs.YtdcpggodlggjjaaGreatDoor.extsBack
