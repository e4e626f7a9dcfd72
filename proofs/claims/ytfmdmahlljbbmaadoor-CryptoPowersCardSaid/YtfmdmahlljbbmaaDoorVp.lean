/- The laws' live question. -/
import Derived.Test.YtfmdmahlljbbmaaDoorVm
import Derived.Test.YtfmdmahlljbbmaaDoorVo
namespace Go.Proofs.YtfmdmahlljbbmaaDoor.vtc
open Go.RowKit Go.Proofs.YtfmdmahlljbbmaaDoor.tlvc Go.Proofs.YtfmdmahlljbbmaaDoor.tmc
set_option linter.unusedVariables false
def ta : Tm := .mk 1 1 [] []
def tp : Tm := .mk 2 0 [] [ta]
theorem ta_right : ∀ outer, outer < 16 → rightF ta outer = true := fun outer h => by
  unfold ta
  rw [right_mk]
  exact ⟨h, by decide, by simp, List.Pairwise.nil⟩
theorem tp_right : rightF tp 0 = true := by
  unfold tp
  rw [right_mk]
  refine ⟨by omega, by decide, fun k hk => ?_, by simp⟩
  rw [List.mem_singleton.1 hk]
  exact ta_right 1 (by omega)
theorem tp_size : szT tp = 2 := by
  unfold tp ta
  rw [szT_kids, szTs_two, szT_kids]
  rfl
theorem tp_intern : internV tp [] = (1, 0, [ta, tp]) := by
  have e1 : putV ta [] = [ta] := by
    unfold ta
    rw [putV_new (by simp), putsV_nil]
    rfl
  have e : putV tp [] = [ta, tp] := by
    show putV (.mk 2 0 [] [ta]) [] = _
    rw [putV_new (by simp), putsV_cons, putsV_nil, e1]
    rfl
  rw [intern_new tp_right rfl (by rw [tp_size]; decide), e]
  rfl
theorem tm_atom (B : Nat → Prop) (w : World) : TmC B w ta (.int .i64 1) (.int .i64 1) (.slice none 0 0) (.slice none 0 0) := by
  unfold ta TmC
  exact ⟨rfl, by unfold I64; omega, rfl, by unfold I64; omega, ⟨none, 0, 0, rfl, Nat.le_refl _, Nat.zero_le _, Bys.nil_ _ _, fun h => absurd h (by omega)⟩, none, 0, rfl, Nat.le_refl _, Nat.zero_le _, fun h => absurd h (by simp)⟩
theorem mut_base {b g : Nat} (h : Mut (b + 1) b none g) : b ≤ g := by
  rcases h with h | h | h
  · omega
  · omega
  · cases h
set_option maxRecDepth 100000 in
set_option maxHeartbeats 4000000 in
theorem head_any (w : World) (ht : txc.Tab w.heap.size w) : Calls Tryd.prog 12 #[] w fun e w' => e = .returned (.bool true) ∧ Below w.heap.size w w' := by
  have HN := Lib.hid (new_any w)
  have hin := fun (w1 : World) (hV : Vlt (fun g => w.heap.size ≤ g) w1 (w.heap.size + 1) w.heap.size none []) (hb : Below w.heap.size w w1) => by
    have hal : Below w1.heap.size w1 (w1.alloc (.cells #[.int .i64 1, .int .i64 1, .slice none 0 0, .slice none 0 0] 26)) := below_new _ _
    have hq := heap_new_ w1 (.cells #[.int .i64 1, .int .i64 1, .slice none 0 0, .slice none 0 0] 26)
    have hql := (Array.getElem?_eq_some_iff.1 hq).1
    have hs := hb.size
    have ht1 : TmV (fun g => w1.heap.size ≤ g) (w1.alloc (.cells #[.int .i64 1, .int .i64 1, .slice none 0 0, .slice none 0 0] 26)) tp (.agg #[.int .i64 2, .int .i64 0, .slice none 0 0, .slice (some ⟨w1.heap.size, 0, none⟩) 1 1]) := by
      refine ⟨_, _, _, _, rfl, ?_⟩
      unfold tp TmC
      refine ⟨rfl, by unfold I64; omega, rfl, by unfold I64; omega, ⟨none, 0, 0, rfl, Nat.le_refl _, Nat.zero_le _, Bys.nil_ _ _, fun h => absurd h (by omega)⟩, some ⟨w1.heap.size, 0, none⟩, 1, rfl, Nat.le_refl _, by decide, fun _ => ⟨w1.heap.size, 0, rfl, hql, Nat.le_refl _, ?_⟩⟩
      unfold KidsC
      exact ⟨⟨_, _, _, _, (Lib.cell_of_heap hq _).trans rfl, (Lib.cell_of_heap hq _).trans rfl, (Lib.cell_of_heap hq _).trans rfl, (Lib.cell_of_heap hq _).trans rfl, tm_atom _ _⟩, by unfold KidsC; trivial⟩
    have h := intern_any _ _ w.heap.size _ _ none [] tp _ _ (hV.below hal) ht1 (fun g hg hm => by have := (hV.lt hm); omega) (ht.on (hb.trans (hal.mono hs))) (Nat.le_trans hs hal.size) (fun g hg => hV.all g hg) (by rw [tp_size]; omega)
    rw [tp_intern] at h
    exact And.intro h (hb.trans (hal.mono hs))
  have HIN := Lib.hid hin
  have HB := Lib.hid fun (w2 : World) => bytes_yes 3 w2 (by omega)
  clear hin ht
  go_enter Tryd.func12, Tryd.ntmps12
  go_wp2_with (first | (go_at_call 13; refine HN.out.mono ?_; rintro e w1 ⟨rfl, hV1, hb1, hs1⟩; obtain ⟨hint, hbn⟩ := HIN.out w1 hV1 hb1; have HINT := Lib.hid hint; have HBN := Lib.hid hbn; clear hint hbn hV1 hb1 hs1) | (go_at_call 16; refine HINT.out.mono ?_; rintro e w2 ⟨ob2, rfl, hV2, _, hoff2⟩; obtain ⟨A9, c9, x0, _⟩ := hV2.cells; have hb2 := HBN.out.trans (hoff2.below (B := w.heap.size) (fun g hg => mut_base hg) HBN.out.size); have HB2 := Lib.hid hb2; clear hV2 hoff2 hb2) | (go_at_call 18; refine (len_cell _ _ _ _ _ x0).mono ?_; rintro e w3 ⟨rfl, rfl⟩) | (go_at_call 26; refine (HB.out _).mono ?_; rintro e w4 ⟨rfl, rfl⟩))
  go_ret
  exact ⟨rfl, HB2.out.trans ((below_new _ _).mono HB2.out.size)⟩
end Go.Proofs.YtfmdmahlljbbmaaDoor.vtc
