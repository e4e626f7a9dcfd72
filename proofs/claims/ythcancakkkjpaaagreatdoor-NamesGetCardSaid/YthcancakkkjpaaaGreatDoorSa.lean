/- The document's AlikePrinc of two alike. -/
import Derived.Test.YthcancakkkjpaaaGreatDoorRz
import Derived.Lib.QuietBelow
import Derived.BigQuiet
namespace Go.Proofs.YthcancakkkjpaaaGreatDoor.nmc
open Go.RowKit Go.Proofs.YthcancakkkjpaaaGreatDoor.tlvc Go.Proofs.YthcancakkkjpaaaGreatDoor.tlvd Go.Proofs.YthcancakkkjpaaaGreatDoor.ndc Go.Proofs.YthcancakkkjpaaaGreatDoor.txc Go.Proofs.YthcancakkkjpaaaGreatDoor.txm Go.Proofs.YthcancakkkjpaaaGreatDoor.intc Go.Proofs.YthcancakkkjpaaaGreatDoor.intm
set_option linter.unusedVariables false
set_option linter.unusedSimpArgs false
set_option maxRecDepth 100000 in
set_option maxHeartbeats 4000000 in
theorem ralikeP_self (B C : Nat → Prop) (p : Pr) (c0 c1 d0 d1 : Value) (w : World) (hp : PrC B w p c0 c1) (hq : PrC C w p d0 d1) :
    Calls Tryz.prog 11 #[.agg #[c0, c1], .agg #[d0, d1]] w fun e w' => e = .returned (.bool true) ∧ Below w.heap.size w w' := by
  obtain ⟨A, c, rfl, rfl, hc, hm, hL, hs⟩ := hp
  obtain ⟨A', d, rfl, rfl, hc2, hm2, hL2, _⟩ := hq
  have h9 : c ≤ 9223372036854775807 := by unfold maxLen at hm; omega
  have h92 : d ≤ 9223372036854775807 := by unfold maxLen at hm2; omega
  obtain ⟨n, hlen⟩ : ∃ x, p.names.length = x := ⟨_, rfl⟩
  obtain ⟨s, hs0⟩ : ∃ x, p.realm = x := ⟨_, rfl⟩
  obtain ⟨xs, hxs⟩ : ∃ x, p.names = x := ⟨_, rfl⟩
  rw [hxs] at hlen hL hL2 hc hc2 ⊢
  rw [hs0] at hs ⊢
  rw [hlen] at hc hc2 ⊢
  obtain ⟨W0, hW0⟩ : ∃ x, (w.alloc (.cells #[.string s, .slice A n c] 35)).alloc (.cells #[.string s, .slice A' n d] 35) = x := ⟨_, rfl⟩
  have hb0 : Below w.heap.size w W0 := by rw [← hW0]; exact (below_new _ _).alloc (by simp) _
  have p0 : W0.heap[w.heap.size + 1]? = some (.cells #[.string s, .slice A' n d] 35) := by rw [← hW0]; exact heap_is (by simp)
  have q0 : W0.heap[w.heap.size]? = some (.cells #[.string s, .slice A n c] 35) := by rw [← hW0, heap_old_ _ _ (by simp)]; exact heap_new_ _ _
  have x0 : W0.cell? ⟨w.heap.size, 0, none⟩ = some (.string s) := (Lib.cell_of_heap q0 _).trans rfl
  have x1 : W0.cell? ⟨w.heap.size, 1, none⟩ = some (.slice A n c) := (Lib.cell_of_heap q0 _).trans rfl
  have y0 : W0.cell? ⟨w.heap.size + 1, 0, none⟩ = some (.string s) := (Lib.cell_of_heap p0 _).trans rfl
  have y1 : W0.cell? ⟨w.heap.size + 1, 1, none⟩ = some (.slice A' n d) := (Lib.cell_of_heap p0 _).trans rfl
  have HX := Lib.hid (fun W (hW : Below W0.heap.size W0 W) => And.intro (cell_on hW x1) (cell_on hW y1))
  have HL := Lib.hid (And.intro hlen (And.intro hL (And.intro hL2 hb0)))
  clear hlen hL hL2 hb0 p0 q0 hs0 hxs hm hm2 hs
  go_enter Tryz.func11, Tryz.ntmps11
  go_wp2_with fail
  go_loopg [5] (n + 1) (fun gk s5 wx => ∃ (i : Nat), s5 = .int .i64 i ∧ i ≤ n ∧ n - i < gk ∧ Hid (Below W0.heap.size W0 wx))
  case atStart => exact ⟨0, rfl, by omega, by omega, Lib.hid (Below.refl _ _)⟩
  case round =>
    obtain ⟨i, rfl, hi, hgk, HI⟩ := hrel
    clear x0 y0 x1 y1
    obtain ⟨x1, y1⟩ := HX.out wr HI.out
    by_cases hlt : i < n
    · have hltz : (i : Int) < (n : Int) := by omega
      obtain ⟨gk', rfl⟩ : ∃ g', gk = g' + 1 := ⟨gk - 1, by omega⟩
      have HN := Lib.hid (And.intro (show i + 1 ≤ n from hlt) (show n - (i + 1) < gk' by omega))
      have hix : i < xs.length := by rw [HL.out.1]; exact hlt
      have hbw := below_then HL.out.2.2.2 HI.out (Nat.le_refl _)
      obtain ⟨g, off, cs, rfl, hg, hcell, rfl, hx5⟩ := (HL.out.2.1.below hbw).at i hix
      obtain ⟨g', off', cs', rfl, hg', hcell', rfl, _⟩ := (HL.out.2.2.1.below hbw).at i hix
      have e0 := hcell 0 _ rfl
      have e1 := hcell' 0 _ rfl
      rw [show stE.sz = 1 from rfl] at e0 e1
      rw [Nat.add_zero, Nat.mul_one] at e0 e1
      obtain ⟨tx, htx⟩ : ∃ t, xs[i] = t := ⟨_, rfl⟩
      rw [htx] at e0 e1
      have g0 := fun (d : Nat) (os : Array Obj) => cell_on (below_regrown wr d os) x1
      have g1 := fun (d : Nat) (os : Array Obj) => cell_on (below_regrown wr d os) y1
      have g2 := fun (d : Nat) (os : Array Obj) => cell_on (below_regrown wr d os) e0
      have g3 := fun (d : Nat) (os : Array Obj) => cell_on (below_regrown wr d os) e1
      have i1 : (0 : Int) ≤ (i : Int) := by omega
      clear e0 e1 htx hx5 hcell hcell' hgk hbw
      go_wp2_with fail
      clear x1 y1
      try dsimp only
      refine wp_region_quiet_below (by kernel_rfl) (by kernel_rfl) ?_
      repeat (go_big_quiet_step (fail))
      refine wpQuiet_nil ?_
      intro _ hw'
      obtain ⟨⟨nq, osq⟩, hw''⟩ := hw'
      subst hw''
      have HF := Lib.hid (below_then HI.out (below_regrown wr nq osq) (Nat.le_refl _))
      clear g0 g1 g2 g3
      go_wp2
      go_roundg gk'
      case measure => omega
      case rel => exact ⟨i + 1, by go_num, HN.out.1, HN.out.2, HF⟩
    · obtain rfl : n = i := by omega
      have hltz : ¬ (n : Int) < (n : Int) := by omega
      clear hgk
      go_wp2
      go_ret
      exact ⟨rfl, below_then HL.out.2.2.2 HI.out (Nat.le_refl _)⟩
/-- Names wholly alike. -/
theorem ralike_self (B C : Nat → Prop) (A A' : Option Addr) (n c d : Nat) (xs : List At) (w : World) (hl : xs.length = n) (hL : Lst atE B w A xs) (hL2 : Lst atE C w A' xs) (hc : n ≤ c) (hm : c ≤ maxLen) (hc2 : n ≤ d) (hm2 : d ≤ maxLen) :
    Calls Tryz.prog 10 #[.slice A n c, .slice A' n d] w fun e w' => e = .returned (.bool true) ∧ Below w.heap.size w w' := by
  have h := ralike_any B C A A' n c n d xs xs w hl hl hL hL2 hc hm hc2 hm2
  rwa [eqW_list.2 rfl] at h
end Go.Proofs.YthcancakkkjpaaaGreatDoor.nmc
