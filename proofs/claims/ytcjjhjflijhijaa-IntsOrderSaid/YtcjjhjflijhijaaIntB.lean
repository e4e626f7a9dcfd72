/- A number's body: what the document's own PutInt and the program's PutInt make is intm.putI. -/
import Derived.Test.YtcjjhjflijhijaaIntA
import Derived.Test.YtcjjhjflijhijaaIntM
namespace Go.Proofs.Ytcjjhjflijhijaa.intc
open Go.RowKit Go.Proofs.Ytcjjhjflijhijaa.tlvc Go.Proofs.Ytcjjhjflijhijaa.intm
set_option linter.unusedVariables false

theorem Try.info5 : (Try.prog.info? 5).map (fun i => (i.zero, i.size, i.bytes)) = some (some (.int .u8 0), 1, 1) := by kernel_rfl

theorem own_one (w : World) (x : Int) {base : Nat} (h : base ≤ w.heap.size) : (w.alloc (.cells #[.int .u8 x] 5)).ownsRow base 5 1 (.slice (some ⟨w.heap.size, 0, none⟩) 1 1) 1 (vals [x]) :=
  World.ownsRow_lit w #[.int .u8 x] 1 h (by decide) rfl

/-- What a call owns and hands back. -/
theorem made_own {w w' : World} {v : Value} {n : Nat} {ys : List Int} (h : w'.ownsRow w.heap.size 5 1 v n (vals ys)) (hf : Fit ys) (hb : Below w.heap.size w w') : Made w ys (.returned v) w' := by
  have hn : ys.length = n := by have := h.1; rw [vals_length] at this; omega
  subst hn
  rcases h.2 with ⟨rfl, h0⟩ | ⟨g, cap, cur, rfl, hg, hh, hc, hm, _⟩
  · have e : ys = [] := List.eq_nil_of_length_eq_zero h0
    subst e
    exact ⟨none, 0, rfl, ⟨Bys.nil_ _ _, Nat.le_refl _, Nat.zero_le _, fun _ _ h => by cases h⟩, hb⟩
  · exact ⟨_, cap, rfl, ⟨Bys.own h hf, hc, hm, fun b off h => by cases h; exact ⟨hg, rfl⟩⟩, hb⟩

/-- The loop of the document's PutInt: what is out is the last bytes. -/
def RefRound (B : Nat) (n m : Int) (v : Value) (w w' : World) : Prop :=
  I64 m ∧ ∃ zs, putI n = putI m ++ zs ∧ Fit zs ∧ w'.ownsRow B 5 1 v (zs.length + 1) (vals ((m % 256) :: zs)) ∧ Below B w w'

theorem refRound_len {B : Nat} {n m : Int} {v : Value} {w w' : World} (h : RefRound B n m v w w') : ∃ zs, putI n = putI m ++ zs ∧ Fit zs ∧ w'.ownsRow B 5 1 v (zs.length + 1) (vals ((m % 256) :: zs)) ∧ Below B w w' ∧ zs.length ≤ 8 := by
  obtain ⟨_, zs, h1, h2, h3, h4⟩ := h
  refine ⟨zs, h1, h2, h3, h4, ?_⟩
  have := congrArg List.length h1
  rw [List.length_append, putI_length, putI_length] at this
  have := width_bd n
  omega
theorem mod_fit (m : Int) : Fit [m % 256] := by intro x hx; simp at hx; omega

theorem refRound_step {n m : Int} {v' : Value} {w wr w' : World} {zs : List Int} {k : Nat} {xs : List Value} (hb : I64 m) (hm : ¬ (-128 ≤ m ∧ m ≤ 127)) (h1 : putI n = putI m ++ zs) (h2 : Fit zs) (h4 : Below w.heap.size w wr)
    (hk : k = zs.length + 2) (hx : xs = vals ((m / 256 % 256) :: (m % 256) :: zs))
    (ho : w'.ownsRow w.heap.size 5 1 v' k xs) (hg : (wr.alloc (.cells #[.int .u8 (m / 256 % 256)] 5)).grownBy w' (some wr.heap.size)) : RefRound w.heap.size n (m / 256) v' w w' := by
  subst hk hx
  refine ⟨by unfold I64 at hb ⊢; omega, (m % 256) :: zs, ?_, (mod_fit m).app h2, ho, ?_⟩
  · rw [h1, putI_step hm hb]; simp
  · exact (h4.alloc h4.size _).grown hg (by have := h4.size; simp; omega) fun j hj => by cases hj; exact h4.size

theorem refRound_end {n m : Int} {v : Value} {w w' : World} (hm : -128 ≤ m ∧ m ≤ 127) (h : RefRound w.heap.size n m v w w') : Made w (putI n) (.returned v) w' := by
  obtain ⟨hb, zs, h1, h2, h3, h4⟩ := h
  rw [h1, putI_one hm]
  exact made_own h3 ((mod_fit m).app h2) h4

set_option maxHeartbeats 400000 in
theorem refPutInt_any (n : Int) (w : World) (hn : I64 n) : Calls Try.prog 16 #[.int .i64 n] w (Made w (putI n)) := by
  obtain ⟨i0, hi, hz0, hz1, hz2⟩ := info_parts Try.info5
  have hb : -9223372036854775808 ≤ n ∧ n ≤ 9223372036854775807 := hn
  have hstart : RefRound w.heap.size n n (.slice (some ⟨w.heap.size, 0, none⟩) 1 1) w (w.alloc (.cells #[.int .u8 (n % 256)] 5)) :=
    ⟨hn, [], by simp, (fun _ h => by simp at h), own_one w _ (Nat.le_refl _), (Below.refl _ _).alloc (Nat.le_refl _) _⟩
  go_enter Try.func16, Try.ntmps16
  go_wp2
  go_loopw [0, 3] (fun x v wr => ∃ m : Int, x = .int .i64 m ∧ RefRound w.heap.size n m v w wr) (fun x _ _ => (intOf x).natAbs)
  case atStart => exact ⟨n, rfl, hstart⟩
  case round =>
    obtain ⟨m, rfl, hr⟩ := hrel
    by_cases hm : -128 ≤ m ∧ m ≤ 127
    · have he := refRound_end hm hr
      clear hr hstart
      go_wp2
      go_ret
      exact he
    · obtain ⟨zs, h1, h2, h3, h4, h5⟩ := refRound_len hr
      have hbm := hr.1
      have hbb : -9223372036854775808 ≤ m ∧ m ≤ 9223372036854775807 := hbm
      have H1 := Lib.hid h1
      have hB := h4.size
      obtain ⟨A, c, rfl, hc1, hc2, hA⟩ := own_shape h3
      have hbz : Bys wr A (zs.length + 1) ((m % 256) :: zs) := Bys.own h3 ((mod_fit m).app h2)
      clear hr hstart h1 hA
      have ho1 := own_one wr (m / 256 % 256) hB
      go_wp2_with (at_builtin; refine wpl_app rfl (.tmp 17) (.tmp 18) 22 rfl w.heap.size 5 i0 (.int .u8 0) Try.underlying22 hi hz0 hz1 hz2 rfl (.slice (some ⟨wr.heap.size, 0, none⟩) 1 1) 1 (vals [m / 256 % 256]) rfl ho1 A (zs.length + 1) c ((m % 256) :: zs) rfl (hbz.alloc _) (by omega) (by simp; omega) ?_; intro v' w2 ho2 hg2)
      all_goals
        go_roundw
        case rel => exact ⟨m / 256, rfl, refRound_step hbm hm H1.out h2 h4 (by omega) rfl ho2 hg2⟩
        case measure => simp [intOf]; omega
end Go.Proofs.Ytcjjhjflijhijaa.intc
