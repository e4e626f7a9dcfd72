/- The head of the statements of extensions. -/
import Derived.Test.YtdcpggodlggjjaaGreatDoorAt
namespace Go.Proofs.YtdcpggodlggjjaaGreatDoor.nmc
open Go.RowKit Go.Proofs.YtdcpggodlggjjaaGreatDoor.tlvc Go.Proofs.YtdcpggodlggjjaaGreatDoor.tlvd Go.Proofs.YtdcpggodlggjjaaGreatDoor.ndc Go.Proofs.YtdcpggodlggjjaaGreatDoor.txc Go.Proofs.YtdcpggodlggjjaaGreatDoor.txm Go.Proofs.YtdcpggodlggjjaaGreatDoor.intc Go.Proofs.YtdcpggodlggjjaaGreatDoor.intm
set_option linter.unusedVariables false
set_option linter.unusedSimpArgs false
def exZ (h c : Bool) (p u : Int) : Ex := ⟨h, c, p, u, [], [], [], [], []⟩
theorem exZ_cells (S : Nat → Prop) (w : World) (h c : Bool) (p u : Int) (hp : -9223372036854775808 ≤ p ∧ p ≤ 9223372036854775807) (hu : 0 ≤ u ∧ u ≤ 65535) : ExC S w (exZ h c p u) (.bool h) (.bool c) (.int .i64 p) (.int .u16 u) (.slice none 0 0) (.slice none 0 0) (.slice none 0 0) (.slice none 0 0) (.slice none 0 0) :=
  ⟨rfl, rfl, rfl, hp, rfl, hu, LsC.nil, LsC.nil, LsC.nil, LsC.nil, LsC.nil⟩
theorem exZ_right (h c : Bool) (p u : Int) : rightX (exZ h c p u) = (if c = true then h && decide (-1 ≤ p) && decide (p ≤ 100) else decide (p = 0)) := by
  unfold rightX boundedX exZ
  simp [partX, oddsX]
theorem exZ_put (h c : Bool) (p u : Int) (hu : 0 ≤ u ∧ u ≤ 65535) : putX (exZ h c p u) = if (if c = true then h && decide (-1 ≤ p) && decide (p ≤ 100) else decide (p = 0)) = true then some (nodeX (exZ h c p u)) else none := by
  rw [putX_right hu, exZ_right]
theorem exZ_kids (h c : Bool) (p u : Int) : (nodeX (exZ h c p u)).kids.length = (if h = true then 1 else 0) + (if u = 0 then 0 else 1) := by
  have e1 : decide (u ≠ 0) = !decide (u = 0) := by simp
  unfold nodeX exZ knownN ks5
  cases h <;> by_cases hu : u = 0 <;> simp [kthere, hu, Nd.kids, List.filter]
theorem nd_len {S : Nat → Prop} {w : World} {n : Nd} {c0 c1 : Value} {K : Option Addr} {lk ck : Nat} (h : NdC S w n c0 c1 (.slice K lk ck)) : lk = n.kids.length := by
  obtain ⟨t, b, ks⟩ := n
  obtain ⟨_, _, _, K', ck', e, _⟩ := NdC.kidsL h
  simp only [Value.slice.injEq] at e
  exact e.2.1
set_option maxRecDepth 100000 in
set_option maxHeartbeats 8000000 in
theorem head10_any (w : World) (hT : Tabs w) : Calls Tryz.prog 8 #[] w fun e w' => e = .returned (.bool true) ∧ Below w.heap.size w w' := by
  have hmf : ∀ (fn : Fn) (first cap : Array Value) (w : World), (Instr.makeFunc fn first cap).run Tryz.prog w = .ok (.func fn first cap) w := fun _ _ _ _ => rfl
  have hp1 := putE_any (fun _ => True) (exZ true true 2 0) _ _ _ _ _ _ _ _ _ w (exZ_cells _ _ _ _ _ _ (by decide) (by decide)) hT
  rw [exZ_put _ _ _ _ (by decide), if_pos (by decide)] at hp1
  have HP1 := Lib.hid hp1
  have HT := Lib.hid hT
  clear hp1 hT
  go_enter Tryz.func8, Tryz.ntmps8
  go_wp2_with fail
  refine HP1.out.mono ?_
  rintro e w1 ⟨hb1, t1, A1, l1, i1, K1, m1, n1, rfl, hn1⟩
  have hm1 : m1 = 1 := by rw [nd_len hn1, exZ_kids]; rfl
  subst hm1
  have hnb := below_new w1 (.cells #[.int .u8 t1, .slice A1 l1 i1, .slice K1 1 n1] 33)
  have hqn := heap_new_ w1 (.cells #[.int .u8 t1, .slice A1 l1 i1, .slice K1 1 n1] 33)
  have hbw := below_then hb1 hnb (Nat.le_refl _)
  have hg := getE_any _ _ _ _ _ _ (NdC.below hnb _ _ _ _ hn1) (HT.out.below hbw)
  rw [getX_node (by decide) (by rw [exZ_right]; decide)] at hg
  have HG := Lib.hid hg
  have HB1 := Lib.hid (And.intro hbw hqn)
  clear hnb hqn hbw hg hn1 hb1 HP1
  go_wp2_with fail
  refine HG.out.mono ?_
  rintro e w2 ⟨hb2, c0, c1, c2, c3, c4, c5, c6, c7, c8, rfl, hx2⟩
  obtain ⟨q0, q1, q2, q3, B4, q4, j4, B5, q5, j5, B6, q6, j6, B7, q7, j7, B8, q8, j8, rfl, rfl, rfl, rfl, rfl, rfl, rfl, rfl, rfl⟩ := exC_shape hx2
  obtain rfl : q0 = true := by have := hx2.has; simpa [exZ] using this
  obtain rfl : q1 = true := by have := hx2.ca; simpa [exZ] using this
  obtain rfl : q2 = 2 := by have := hx2.path; simpa [exZ] using this
  have hnb := below_new w2 (.cells #[.bool true, .bool true, .int .i64 2, .int .u16 q3, .slice B4 q4 j4, .slice B5 q5 j5, .slice B6 q6 j6, .slice B7 q7 j7, .slice B8 q8 j8] 28)
  have hqn := heap_new_ w2 (.cells #[.bool true, .bool true, .int .i64 2, .int .u16 q3, .slice B4 q4 j4, .slice B5 q5 j5, .slice B6 q6 j6, .slice B7 q7 j7, .slice B8 q8 j8] 28)
  have hb22 := below_then hb2 hnb (Nat.le_refl _)
  have hbw := below_then HB1.out.1 hb22 (Nat.le_refl _)
  have hp3 := putE_any (fun _ => True) (exZ false true 0 0) _ _ _ _ _ _ _ _ _ (w2.alloc (.cells #[.bool true, .bool true, .int .i64 2, .int .u16 q3, .slice B4 q4 j4, .slice B5 q5 j5, .slice B6 q6 j6, .slice B7 q7 j7, .slice B8 q8 j8] 28)) (exZ_cells _ _ _ _ _ _ (by decide) (by decide)) (HT.out.below hbw)
  rw [exZ_put _ _ _ _ (by decide), if_neg (by decide)] at hp3
  have HP3 := Lib.hid hp3
  have HB2 := Lib.hid (And.intro hbw (And.intro hqn (And.intro hb22 hnb)))
  clear hnb hqn hbw hp3 hb22 hb2 hx2 HG
  go_wp2_with fail
  refine HP3.out.mono ?_
  rintro e w3 ⟨hb3, rfl⟩
  have hnb := below_new w3 (.cells #[.int .u8 0, .slice none 0 0, .slice none 0 0] 33)
  have hb33 := below_then hb3 hnb (Nat.le_refl _)
  obtain ⟨y0, y1, y2, y3, y4, y5, y6, y7, y8⟩ := box9 hb33 HB2.out.2.1
  obtain ⟨x0, x1, x2⟩ := box_nd (below_then HB2.out.2.2.1 hb33 (Nat.le_refl _)) HB1.out.2
  have HE := Lib.hid (below_then HB2.out.1 hb33 (Nat.le_refl _))
  clear hnb hb33 hb3 HB1 HB2 HP3
  go_wp2
  go_ret
  exact ⟨rfl, HE.out⟩
end Go.Proofs.YtdcpggodlggjjaaGreatDoor.nmc
