/- The program's written: a clock's fields as digits. -/
import Derived.Test.YtomoinohfoalnaaDoorTxE
namespace Go.Proofs.YtomoinohfoalnaaDoor.txc
open Go.RowKit Go.Proofs.YtomoinohfoalnaaDoor.txm Go.Proofs.YtomoinohfoalnaaDoor.tlvc
set_option linter.unusedVariables false

theorem seven {k : Nat} (h : k < 7) : k = 0 ∨ k = 1 ∨ k = 2 ∨ k = 3 ∨ k = 4 ∨ k = 5 ∨ k = 6 := by omega
theorem ints7_at (c0 c1 c2 c3 c4 c5 c6 : Int) {k : Nat} (h : k < 7) (w : World) : (Instr.index 72 (.agg #[.int .i64 c0, .int .i64 c1, .int .i64 c2, .int .i64 c3, .int .i64 c4, .int .i64 c5, .int .i64 c6]) (.int .i64 k)).run Tryd.prog w = .ok (.int .i64 ([c0, c1, c2, c3, c4, c5, c6].getD k 0)) w := by
  rcases seven h with rfl | rfl | rfl | rfl | rfl | rfl | rfl <;> kernel_rfl

/-- What is written of the first k fields. -/
def pre (tag : Int) (c : List Int) (k : Nat) : List Int := ((c.take k).drop (if tag = 23 then 1 else 0)).flatMap wr2
theorem pre_zero (tag : Int) (c : List Int) : pre tag c 0 = [] := by simp [pre]
theorem pre_skip {c : List Int} : pre 23 c 1 = [] := by cases c <;> simp [pre]
theorem pre_step {tag : Int} {c : List Int} {k : Nat} (h : k < c.length) (hk : tag = 23 → 1 ≤ k) : pre tag c (k + 1) = pre tag c k ++ wr2 (c.getD k 0) := by
  unfold pre
  rw [List.take_succ_eq_append_getElem h, List.drop_append, List.flatMap_append]
  have e : (if tag = 23 then 1 else 0) - (c.take k).length = 0 := by rw [List.length_take]; split <;> rename_i ht <;> first | (have := hk ht; omega) | omega
  rw [e, List.drop_zero]
  simp [List.getD_eq_getElem?_getD, List.getElem?_eq_getElem h]
theorem pre_all {tag : Int} {c : List Int} (h : c.length = 7) : pre tag c 7 ++ [90] = wrs tag c := by
  unfold pre wrs
  rw [List.take_of_length_le (by omega)]
  split <;> simp
theorem wr2_fit {n : Int} (h : 0 ≤ n) (h2 : n ≤ 99) : Fit (wr2 n) := fun x hx => by have := wr2_bd h h2 x hx; omega
theorem pre_fit {tag : Int} {c : List Int} (h : Flds c) (k : Nat) : Fit (pre tag c k) := by
  intro x hx
  simp only [pre, List.mem_flatMap] at hx
  obtain ⟨n, hn, hx⟩ := hx
  have hn' : n ∈ c := List.mem_of_mem_take (List.mem_of_mem_drop hn)
  have := wr2_bd (h n hn').1 (h n hn').2 x hx
  omega
theorem pre_len (tag : Int) (c : List Int) (k : Nat) (h : k ≤ 7) : (pre tag c k).length ≤ 14 := by
  unfold pre
  have e : ∀ l : List Int, (l.flatMap wr2).length = 2 * l.length := fun l => by
    induction l with
    | nil => rfl
    | cons a l ih => rw [List.flatMap_cons, List.length_append, ih]; simp [wr2]; omega
  rw [e, List.length_drop, List.length_take]
  omega
theorem wrs_fit' {tag : Int} {c : List Int} (h : Flds c) : Fit (wrs tag c) := fun x hx => by have := wrs_fit h x hx; omega
theorem flds_at {c : List Int} (h : Flds c) (k : Nat) : 0 ≤ c.getD k 0 ∧ c.getD k 0 ≤ 99 := by
  rcases Nat.lt_or_ge k c.length with hk | hk
  · rw [List.getD_eq_getElem?_getD, List.getElem?_eq_getElem hk]; exact h _ (List.getElem_mem hk)
  · rw [List.getD_eq_getElem?_getD, List.getElem?_eq_none hk]; exact ⟨Int.le_refl _, by decide⟩

set_option maxRecDepth 100000 in
set_option maxHeartbeats 1000000 in
theorem written_any (tag c0 c1 c2 c3 c4 c5 c6 : Int) (w : World) (ht : tag = 23 ∨ tag = 24) (h : Flds [c0, c1, c2, c3, c4, c5, c6]) :
    Calls Tryd.prog 43 #[.int .u8 tag, .agg #[.int .i64 c0, .int .i64 c1, .int .i64 c2, .int .i64 c3, .int .i64 c4, .int .i64 c5, .int .i64 c6]] w (Made w (wrs tag [c0, c1, c2, c3, c4, c5, c6])) := by
  obtain ⟨i0, hi, hz0, hz1, hz2⟩ := info_parts Tryd.info5
  obtain ⟨c, hc⟩ : ∃ c, [c0, c1, c2, c3, c4, c5, c6] = c := ⟨_, rfl⟩
  have hcl : c.length = 7 := by rw [← hc]; rfl
  have hix : ∀ k : Nat, k < 7 → ∀ w, _ := fun k hk => ints7_at c0 c1 c2 c3 c4 c5 c6 hk
  rw [hc] at hix h ⊢
  have HI := Lib.hid hix
  have HC := Lib.hid hcl
  clear hix hc hcl
  go_enter Tryd.func43, Tryd.ntmps43
  go_wp2_with fail
  go_loopw [5, 6, 7, 9] (fun v _ _ t9 wr => ∃ k : Nat, k ≤ 7 ∧ t9 = .int .i64 k ∧ wr.ownsRow w.heap.size 5 1 v (pre tag c k).length (vals (pre tag c k)) ∧ Below w.heap.size w wr) (fun _ _ _ t9 _ => 8 - (intOf t9).toNat)
  case atStart =>
    refine ⟨0, by omega, rfl, ?_, (Below.refl _ _).alloc (Nat.le_refl _) _⟩
    rw [pre_zero]; exact ⟨rfl, .inl ⟨rfl, rfl⟩⟩
  case round =>
    obtain ⟨k, hk, rfl, hown, hbw⟩ := hrel
    have hbs := hbw.size
    by_cases hlt : k < 7
    · have hx := HI.out k hlt
      have hf := flds_at h k
      have hps := pre_step (tag := tag) (c := c) (k := k) (by rw [HC.out]; exact hlt)
      have hpl := pre_len tag c k (by omega)
      obtain ⟨X, hX⟩ : ∃ X, c.getD k 0 = X := ⟨_, rfl⟩
      rw [hX] at hx hf hps
      clear hX
      have HP := Lib.hid hps
      clear hps
      by_cases hz : k = 0
      · have hb0 : ((k : Int) == 0) = true := by simp [hz]
        have HZ := Lib.hid hz
        clear hz
        rcases ht with rfl | rfl
        · have hw : wr.ownsRow w.heap.size 5 1 u5 (pre 23 c (k + 1)).length (vals (pre 23 c (k + 1))) := by rw [HZ.out] at hown ⊢; rw [pre_skip]; rw [pre_zero] at hown; exact hown
          clear hown
          go_wp2
          go_roundw
          case rel => exact ⟨k + 1, by omega, by go_num, hw, hbw⟩
          case measure => simp [intOf]; omega
        · have hbn : Bys (wr.alloc (.cells #[.int .u8 (48 + X / 10), .int .u8 (48 + X % 10)] 5)) (some ⟨wr.heap.size, 0, none⟩) 2 [48 + X / 10, 48 + X % 10] := bys_new2 wr _ (by omega) (by omega)
          go_wp2_with (at_builtin; refine wpl_app rfl (.tmp 19) (.tmp 28) 22 rfl w.heap.size 5 i0 (.int .u8 0) Tryd.underlying22 hi hz0 hz1 hz2 rfl u5 (pre 24 c k).length (vals (pre 24 c k)) rfl (hown.alloc _) (some ⟨wr.heap.size, 0, none⟩) 2 2 [48 + X / 10, 48 + X % 10] rfl hbn (by omega) (by simp; omega) ?_; intro v' w2 ho2 hg2)
          have hnx := own_next hbw hown (HP.out (fun h => absurd h (by decide))) rfl ho2 hg2
          have HN := Lib.hid hnx
          clear hnx ho2 hg2 hown hbn
          go_wp2
          go_roundw
          case rel => exact ⟨k + 1, by omega, by go_num, HN.out.1, HN.out.2⟩
          case measure => simp [intOf]; omega
      · have hb0 : ((k : Int) == 0) = false := by simp [hz]
        have hbn : Bys (wr.alloc (.cells #[.int .u8 (48 + X / 10), .int .u8 (48 + X % 10)] 5)) (some ⟨wr.heap.size, 0, none⟩) 2 [48 + X / 10, 48 + X % 10] := bys_new2 wr _ (by omega) (by omega)
        go_wp2_with (at_builtin; refine wpl_app rfl (.tmp 19) (.tmp 28) 22 rfl w.heap.size 5 i0 (.int .u8 0) Tryd.underlying22 hi hz0 hz1 hz2 rfl u5 (pre tag c k).length (vals (pre tag c k)) rfl (hown.alloc _) (some ⟨wr.heap.size, 0, none⟩) 2 2 [48 + X / 10, 48 + X % 10] rfl hbn (by omega) (by simp; omega) ?_; intro v' w2 ho2 hg2)
        have hnx := own_next hbw hown (HP.out (by omega)) rfl ho2 hg2
        have HN := Lib.hid hnx
        clear hnx ho2 hg2 hown hbn
        go_wp2
        go_roundw
        case rel => exact ⟨k + 1, by omega, by go_num, HN.out.1, HN.out.2⟩
        case measure => simp [intOf]; omega
    · have hk7 : k = 7 := by omega
      have hpl := pre_len tag c k hk
      have HK := Lib.hid hk7
      clear hk7
      go_wp2_with (at_builtin; refine wpl_app rfl (.tmp 31) (.tmp 32) 22 rfl w.heap.size 5 i0 (.int .u8 0) Tryd.underlying22 hi hz0 hz1 hz2 rfl u5 (pre tag c k).length (vals (pre tag c k)) rfl (hown.alloc _) (some ⟨wr.heap.size, 0, none⟩) 1 1 [90] rfl (bys_new1 wr _ (by omega)) (by omega) (by simp; omega) ?_; intro v' w2 ho2 hg2)
      have hnx := own_next hbw hown (HK.out ▸ (pre_all HC.out).symm) rfl ho2 hg2
      have hfin : Made w (wrs tag c) (.returned v') w2 := made_own hnx.1 (wrs_fit' h) hnx.2
      clear hnx ho2 hg2 hown
      go_wp2
      go_ret
      exact hfin
end Go.Proofs.YtomoinohfoalnaaDoor.txc
