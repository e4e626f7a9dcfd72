/- A number's body: the program's PutInt. -/
import Derived.Test.YtcjjhjflijhijaaIntB
namespace Go.Proofs.Ytcjjhjflijhijaa.intc
open Go.RowKit Go.Proofs.Ytcjjhjflijhijaa.tlvc Go.Proofs.Ytcjjhjflijhijaa.intm
set_option linter.unusedVariables false

theorem wid_test {n : Int} (hb : I64 n) {k : Nat} (h1 : 1 ≤ k) (h2 : k ≤ 8) (h : k ≤ width n) : (n / 2 ^ (8 * k - 1) != n / 9223372036854775808) = decide (k < width n) := by
  have key : (n / 2 ^ (8 * k - 1) = n / 9223372036854775808) ↔ ¬ k < width n := by
    by_cases h8 : k = 8
    · have := width_bd n
      subst h8
      exact ⟨fun _ => by omega, fun _ => rfl⟩
    unfold I64 at hb
    have hk : k = 1 ∨ k = 2 ∨ k = 3 ∨ k = 4 ∨ k = 5 ∨ k = 6 ∨ k = 7 := by omega
    clear h
    unfold width
    rcases hk with rfl | rfl | rfl | rfl | rfl | rfl | rfl <;> simp only [Nat.reduceMul, Nat.reduceSub, Int.reducePow] <;> repeat' split
    all_goals omega
  by_cases h3 : k < width n
  · simp only [h3, decide_true, bne_iff_ne, ne_eq]
    rw [key]; exact fun h => h h3
  · simp only [h3, decide_false]
    rw [bne_eq_false_iff_eq, key]; exact h3

/-- The row when i bytes are laid. -/
def laid (n : Int) (i : Nat) : List Int := (putI n).take i ++ List.replicate (width n - i) 0
theorem laid_zero (n : Int) : vals (laid n 0) = (List.replicate (width n) (Value.int .u8 0)) := by simp [laid, vals]
theorem laid_all (n : Int) (i : Nat) (h : i = width n) : laid n i = putI n := by
  unfold laid
  rw [List.take_of_length_le (by rw [putI_length]; omega)]
  simp [h]
theorem laid_fit (n : Int) (i : Nat) : Fit (laid n i) := by
  intro x hx
  rcases List.mem_append.1 hx with h | h
  · exact putI_bytes n x (List.mem_of_mem_take h)
  · have := List.eq_of_mem_replicate h; omega
theorem laid_step {n : Int} {i : Nat} (h : i < width n) {z : Int} (hz : z = n / 2 ^ (8 * (width n - 1 - i)) % 256) : (laid n i).set i z = laid n (i + 1) := by
  have e : z = (putI n).getD i 0 := by
    rw [hz]
    unfold putI
    rw [enc_getD _ _ _ h, Int.pow_mul]
    rfl
  have hl : ((putI n).take i).length = i := by rw [List.length_take, putI_length]; omega
  unfold laid
  rw [List.set_append_right _ _ (by omega), hl, Nat.sub_self]
  obtain ⟨r, hr⟩ : ∃ r, width n - i = r + 1 := ⟨width n - i - 1, by omega⟩
  have hr2 : width n - (i + 1) = r := by omega
  rw [hr, hr2, List.replicate_succ, List.set_cons_zero, List.take_succ_eq_append_getElem (by rw [putI_length]; exact h), e]
  have hg : (putI n).getD i 0 = (putI n)[i]'(by rw [putI_length]; exact h) := by simp [List.getD_eq_getElem?_getD, List.getElem?_eq_getElem (show i < (putI n).length by rw [putI_length]; exact h)]
  rw [hg, List.append_assoc]
  rfl

theorem laid_next {n : Int} {i : Nat} {w wr : World} {A : Nat} {c : Nat} (h : i < width n) (hA : w.heap.size ≤ A) (ho : wr.ownsRow w.heap.size 5 1 (.slice (some ⟨A, 0, none⟩) (width n) c) (width n) (vals (laid n i))) (hb : Below w.heap.size w wr) :
    (wr.setCell ⟨A, i, none⟩ (.int .u8 (n / 2 ^ (8 * (width n - 1 - i)) % 256))).ownsRow w.heap.size 5 1 (.slice (some ⟨A, 0, none⟩) (width n) c) (width n) (vals (laid n (i + 1))) ∧ Below w.heap.size w (wr.setCell ⟨A, i, none⟩ (.int .u8 (n / 2 ^ (8 * (width n - 1 - i)) % 256))) := by
  obtain ⟨h1, h2⟩ := ho.stored i (.int .u8 (n / 2 ^ (8 * (width n - 1 - i)) % 256))
  refine ⟨?_, hb.setCell hA _⟩
  have : vals (laid n (i + 1)) = (vals (laid n i)).set i (.int .u8 (n / 2 ^ (8 * (width n - 1 - i)) % 256)) := by rw [← laid_step h rfl]; simp [vals, List.map_set]
  rw [this]; exact h1

set_option maxHeartbeats 400000 in
theorem putInt_any (n : Int) (w : World) (hn : I64 n) : Calls Try.prog 15 #[.int .i64 n] w (Made w (putI n)) := by
  obtain ⟨i0, hi, hz0, hz1, hz2⟩ := info_parts Try.info5
  have hb : -9223372036854775808 ≤ n ∧ n ≤ 9223372036854775807 := hn
  have hwb := width_bd n
  go_enter Try.func15, Try.ntmps15
  go_wp2
  go_loop [3] (fun x => ∃ k : Nat, x = .int .i64 k ∧ 1 ≤ k ∧ k ≤ width n) (fun x => 9 - (intOf x).toNat)
  case atStart => exact ⟨1, rfl, by omega, by omega⟩
  case round =>
    obtain ⟨k, rfl, hk1, hk2⟩ := hrel
    have ht := wid_test hn hk1 (by omega) hk2
    by_cases hlt : k < width n
    · have ht' : (n / 2 ^ (8 * k - 1) != n / 9223372036854775808) = true := by rw [ht]; simp [hlt]
      clear ht
      go_wp2
      go_round
      case rel => exact ⟨k + 1, by go_num, by omega, by omega⟩
      case measure => simp [intOf]; omega
    · have ht' : (n / 2 ^ (8 * k - 1) != n / 9223372036854775808) = false := by rw [ht]; simp [hlt]
      obtain rfl : width n = k := by omega
      clear ht
      go_wp2_with (at_make; refine wpList_make_full _ rfl _ _ 22 rfl w.heap.size 5 i0 (.int .u8 0) 1 Try.underlying22 hi hz0 hz1 _ _ _ _ (width n) rfl rfl rfl rfl (by rw [hz2]; omega) (by unfold maxLen; omega) (Nat.le_refl _) ?_; intro w1 hown1 hg1)
      have hrow : w1.ownsRow w.heap.size 5 1 (.slice (some ⟨w.heap.size, 0, none⟩) (width n) (width n)) (width n) (vals (laid n 0)) := by
        rw [laid_zero]
        rw [show (Value.int IntKind.u8 0).cells = #[.int .u8 0] from rfl, Nat.mul_one, toList_madeCells_one] at hown1
        exact hown1
      have hbel : Below w.heap.size w w1 := (Below.refl _ _).grown hg1 (Nat.le_refl _) (fun _ h => by cases h)
      clear hown1 hg1
      go_loopw [20] (fun x wr => ∃ i : Nat, x = .int .i64 i ∧ i ≤ width n ∧ wr.ownsRow w.heap.size 5 1 (.slice (some ⟨w.heap.size, 0, none⟩) (width n) (width n)) (width n) (vals (laid n i)) ∧ Below w.heap.size w wr) (fun x _ => 9 - (intOf x).toNat)
      case atStart => exact ⟨0, rfl, by omega, hrow, hbel⟩
      case round =>
        obtain ⟨i, rfl, hi2, ho, hbl⟩ := hrel
        by_cases hlt2 : i < width n
        · have hfro := ho.frozenAt i
          have hcell := bys_at (Bys.own ho (laid_fit n i)) i hlt2
          have hnext := laid_next hlt2 (Nat.le_refl _) ho hbl
          have HN := Lib.hid hnext
          clear hnext ho hbl hrow hbel
          go_wp2
          go_roundw
          case rel => exact ⟨i + 1, by go_num, by omega, HN.out.1, HN.out.2⟩
          case measure => simp [intOf]; omega
        · have := made_own ho (laid_fit n i) hbl
          rw [laid_all n i (by omega)] at this
          go_wp2
          go_ret
          exact this
end Go.Proofs.Ytcjjhjflijhijaa.intc
