/- What each law of nodes asks first: the live question. -/
import Derived.Test.YtaafgohaikhekaaDoorNc
import Derived.Test.YtaafgohaikhekaaDoorIa
import Derived.Lib.SlBytesConst
namespace Go.Proofs.YtaafgohaikhekaaDoor.ndc
open Go.RowKit Go.Proofs.YtaafgohaikhekaaDoor.tlvc Go.Proofs.YtaafgohaikhekaaDoor.txc
set_option linter.unusedVariables false
set_option linter.unusedSimpArgs false
def nd0 : Nd := .mk 48 [] [.mk 2 [5] []]
set_option maxRecDepth 100000 in
theorem read0 : readAllF [48, 3, 2, 1, 5] = .ok nd0 5 := by kernel_rfl
theorem readNil : readAllF [] = .bad 0 12 := by kernel_rfl
theorem bys_lit {w : World} (cs : List Int) (e : TypeId) (fr : Nat × Nat) (hf : Fit cs) : Bys (w.alloc (.cells (cs.map (Value.int .u8)).toArray e fr)) (some ⟨w.heap.size, 0, none⟩) cs.length cs := by
  refine ⟨rfl, hf, fun _ => ⟨_, _, rfl, by simp, fun j hj => ?_⟩⟩
  rw [Nat.zero_add, World.cell?_alloc_mark]
  simp [List.getD_eq_getElem?_getD, List.getElem?_eq_getElem hj]
set_option maxRecDepth 100000 in
set_option maxHeartbeats 8000000 in
theorem head_any (w : World) (hT : Tabs w) : Calls Tryd.prog 9 #[] w fun e w' => e = .returned (.bool true) ∧ Below w.heap.size w w' := by
  have hb0 : Below w.heap.size w (w.alloc (.cells #[.int .u8 48, .int .u8 3, .int .u8 2, .int .u8 1, .int .u8 5] 5 (5, 6))) := (Below.refl _ _).alloc (Nat.le_refl _) _
  have hby : Bys (w.alloc (.cells #[.int .u8 48, .int .u8 3, .int .u8 2, .int .u8 1, .int .u8 5] 5 (5, 6))) (some ⟨w.heap.size, 0, none⟩) 5 [48, 3, 2, 1, 5] := bys_lit (w := w) [48, 3, 2, 1, 5] 5 (5, 6) (by intro x hx; simp at hx; omega)
  have hp := parse_any _ 5 5 _ _ hby (Nat.le_refl _) (by unfold maxLen; decide) (hT.below hb0)
  rw [read0] at hp
  have HP := Lib.hid hp
  clear hp hby
  go_enter Tryd.func9, Tryd.ntmps9
  have hcs := fun (w : World) (C : Array Value) (n c : Nat) => Lib.run_convert_bytes_const (P := Tryd.prog) w 22 5 C n c Tryd.underlying22 Tryd.underlying5
  go_wp2_with fail
  refine HP.out.mono ?_
  rintro e w1 ⟨hb1, v, rfl, c0, c1, c2, rfl, hnd⟩
  have hB1 := hb0.trans (hb1.mono hb0.size)
  unfold nd0 at hnd
  unfold NdC at hnd
  obtain ⟨rfl, _, ⟨A1, la, ca, rfl, _⟩, K, ck, rfl, hk1, hk2, hk3⟩ := hnd
  obtain ⟨g, off, rfl, hg, _, hks⟩ := hk3 (by simp)
  unfold KidsC at hks
  obtain ⟨⟨d0, d1, d2, e0, e1, e2, hkn⟩, _⟩ := hks
  unfold NdC at hkn
  obtain ⟨rfl, _, ⟨A2, lb, cb, rfl, hlb, hcb, hbd, _⟩, K2, ck2, rfl, _⟩ := hkn
  have hl2 : lb = 1 := hbd.1.symm
  subst hl2
  clear HP hb0 hb1
  have hn := parse_any none 0 0 [] (w1.alloc (.cells #[.int .u8 48, .slice A1 la ca, .slice (some ⟨g, off, none⟩) 1 ck] 25)) (Bys.nil_ _ _) (Nat.le_refl _) (Nat.zero_le _) ((hT.below hB1).below ((Below.refl _ _).alloc (Nat.le_refl _) _))
  rw [readNil] at hn
  have HN := Lib.hid hn
  have HBD := Lib.hid hbd
  clear hn hbd
  go_wp2_with fail
  refine HN.out.mono ?_
  rintro e w2 ⟨hb2, rfl⟩
  have hz := hb2.size
  have hz1 : (w1.alloc (.cells #[.int .u8 48, .slice A1 la ca, .slice (some ⟨g, off, none⟩) 1 ck] 25)).heap.size = w1.heap.size + 1 := by simp
  have hB2 := (hB1.alloc hB1.size (.cells #[.int .u8 48, .slice A1 la ca, .slice (some ⟨g, off, none⟩) 1 ck] 25)).trans (hb2.mono (by rw [hz1]; have := hB1.size; omega))
  have hbx : Below w1.heap.size w1 w2 := ((Below.refl _ _).alloc (Nat.le_refl _) _).trans (hb2.mono (by rw [hz1]; omega))
  have hbl : Below w1.heap.size w1 (w2.alloc (.cells #[.int .u8 0, .slice none 0 0, .slice none 0 0] 25)) := hbx.alloc hbx.size _
  have hB3 : Below w.heap.size w (w2.alloc (.cells #[.int .u8 0, .slice none 0 0, .slice none 0 0] 25)) := hB2.alloc hB2.size _
  have ht2 : w2.heap[w1.heap.size]? = some (.cells #[.int .u8 48, .slice A1 la ca, .slice (some ⟨g, off, none⟩) 1 ck] 25) := (hb2.block _ (by omega)).trans (heap_new_ _ _)
  have l1 : w1.heap.size < w2.heap.size := by omega
  have l2 : g < w2.heap.size := by omega
  have x0 : w2.cell? ⟨w1.heap.size, 0, none⟩ = some (.int .u8 48) := by rw [Lib.cell_of_heap ht2]; rfl
  have x2 : w2.cell? ⟨w1.heap.size, 2, none⟩ = some (.slice (some ⟨g, off, none⟩) 1 ck) := by rw [Lib.cell_of_heap ht2]; rfl
  have y1 : w2.cell? ⟨g, off + 1, none⟩ = some (.slice A2 1 cb) := (hbx.cell (p := ⟨g, off + 1, none⟩) hg).trans e1
  have hcv := intc.str_now (HBD.out.below hbl) cb
  have e5 : strOfNums [5] = ⟨#[5]⟩ := rfl
  rw [e5] at hcv
  clear HN HBD hb2 hbl hbx hB1 hB2 e0 e1 e2 hk3 ht2 hz hz1 hcs
  go_wp2
  go_ret
  exact ⟨rfl, hB3⟩
end Go.Proofs.YtaafgohaikhekaaDoor.ndc
