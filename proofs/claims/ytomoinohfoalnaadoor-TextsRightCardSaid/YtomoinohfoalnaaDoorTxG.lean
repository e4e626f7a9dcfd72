/- The program's PutTime. -/
import Derived.Test.YtomoinohfoalnaaDoorTxF
namespace Go.Proofs.YtomoinohfoalnaaDoor.txc
open Go.RowKit Go.Proofs.YtomoinohfoalnaaDoor.txm Go.Proofs.YtomoinohfoalnaaDoor.tlvc
set_option linter.unusedVariables false

/-- A tag, bytes in new memory, and OK or an error. -/
def Put (w : World) (t : Int) (ys : List Int) (er : Int) (e : Ending) (w' : World) : Prop :=
  ∃ A c, e = .returned (.tuple #[.int .u8 t, .slice A ys.length c, .int .i64 er]) ∧ Here w.heap.size A c ys w' ∧ Below w.heap.size w w'
theorem body_fit {s : Int} (h : InR s) : Fit (bodyOf s) := wrs_fit' (clk_flds h)

set_option maxRecDepth 100000 in
set_option maxHeartbeats 400000 in
theorem putTime_in (sec : Int) (w : World) (h : InR sec) :
    Calls Tryd.prog 23 #[.int .i64 sec] w (Put w (tagOf sec) (bodyOf sec) 0) := by
  have hr : -631152000 ≤ sec ∧ sec ≤ 253402300799 := h
  obtain ⟨hr0, hr1⟩ := hr
  have hf := clk_flds h
  obtain ⟨c0, c1, c2, c3, c4, c5, c6, hc⟩ : ∃ c0 c1 c2 c3 c4 c5 c6, clk sec = [c0, c1, c2, c3, c4, c5, c6] := ⟨_, _, _, _, _, _, _, rfl⟩
  have hv : clkV sec = .agg #[.int .i64 c0, .int .i64 c1, .int .i64 c2, .int .i64 c3, .int .i64 c4, .int .i64 c5, .int .i64 c6] := by unfold clkV ints; rw [hc]; rfl
  unfold bodyOf
  rw [hc] at hf ⊢
  have HV := Lib.hid hv
  clear hv hc
  have tail : ∀ t, t = 23 ∨ t = 24 → ∀ (wx : World), Below w.heap.size w wx → Calls Tryd.prog 43 #[.int .u8 t, .agg #[.int .i64 c0, .int .i64 c1, .int .i64 c2, .int .i64 c3, .int .i64 c4, .int .i64 c5, .int .i64 c6]] wx
      fun e w' => ∃ A c, e = .returned (.slice A (wrs t [c0, c1, c2, c3, c4, c5, c6]).length c) ∧ Here w.heap.size A c (wrs t [c0, c1, c2, c3, c4, c5, c6]) w' ∧ Below w.heap.size w w' := fun t ht wx hb =>
    (written_any t c0 c1 c2 c3 c4 c5 c6 wx ht hf).mono fun e w' ⟨A, c, h1, h2, h3⟩ => ⟨A, c, h1, ⟨h2.1, h2.2.1, h2.2.2.1, fun b off e => ⟨Nat.le_trans hb.size (h2.2.2.2 b off e).1, (h2.2.2.2 b off e).2⟩⟩, hb.trans (h3.mono hb.size)⟩
  by_cases hs : 2524608000 ≤ sec
  · rw [show tagOf sec = 24 from if_pos hs]
    have ht := tail 24 (.inr rfl)
    clear tail
    go_enter Tryd.func23, Tryd.ntmps23
    go_wp2_with fail
    refine (clockAt_any _ _ h).mono ?_
    rw [HV.out]
    rintro e w1 ⟨rfl, hb1⟩
    go_wp2_with fail
    refine (ht _ hb1).mono ?_
    rintro e w2 ⟨A, c, rfl, hh, hb2⟩
    go_wp2
    go_ret3
    exact ⟨_, _, rfl, hh, hb2⟩
  · rw [show tagOf sec = 23 from if_neg hs]
    have ht := tail 23 (.inl rfl)
    clear tail
    go_enter Tryd.func23, Tryd.ntmps23
    go_wp2_with fail
    refine (clockAt_any _ _ h).mono ?_
    rw [HV.out]
    rintro e w1 ⟨rfl, hb1⟩
    go_wp2_with fail
    refine (ht _ hb1).mono ?_
    rintro e w2 ⟨A, c, rfl, hh, hb2⟩
    go_wp2
    go_ret3
    exact ⟨_, _, rfl, hh, hb2⟩

theorem putTime_out (sec : Int) (w : World) (h : sec < -631152000 ∨ 253402300799 < sec) :
    Calls Tryd.prog 23 #[.int .i64 sec] w (Put w 0 [] 32) := by
  have fin : Put w 0 [] 32 (.returned (.tuple #[.int .u8 0, .slice none 0 0, .int .i64 32])) w := ⟨none, 0, rfl, ⟨Bys.nil_ _ _, Nat.le_refl _, Nat.zero_le _, fun _ _ h => by cases h⟩, Below.refl _ _⟩
  rcases h with h | h
  · go_enter Tryd.func23, Tryd.ntmps23
    go_wp2
    go_ret3
    exact fin
  · have h' : ¬ sec < -631152000 := by omega
    go_enter Tryd.func23, Tryd.ntmps23
    go_wp2
    go_ret3
    exact fin

instance (s : Int) : Decidable (InR s) := by unfold InR; infer_instance
def putT (s : Int) : Int := if InR s then tagOf s else 0
def putB (s : Int) : List Int := if InR s then bodyOf s else []
def putE (s : Int) : Int := if InR s then 0 else 32
theorem out_of {s : Int} (h : ¬ InR s) : s < -631152000 ∨ 253402300799 < s := by unfold InR at h; omega
theorem putTime_any (sec : Int) (w : World) : Calls Tryd.prog 23 #[.int .i64 sec] w (Put w (putT sec) (putB sec) (putE sec)) := by
  unfold putT putB putE
  by_cases h : InR sec
  · rw [if_pos h, if_pos h, if_pos h]; exact putTime_in sec w h
  · rw [if_neg h, if_neg h, if_neg h]; exact putTime_out sec w (out_of h)
theorem putB_fit (s : Int) : Fit (putB s) := by
  unfold putB; split
  · exact body_fit (by assumption)
  · exact fun x h => absurd h (by simp)
end Go.Proofs.YtomoinohfoalnaaDoor.txc
