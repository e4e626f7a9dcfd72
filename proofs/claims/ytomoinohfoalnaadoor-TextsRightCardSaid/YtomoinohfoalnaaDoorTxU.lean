/- The program's all, and Right for tags of bytes. -/
import Derived.Test.YtomoinohfoalnaaDoorTxT
import Derived.Test.YtomoinohfoalnaaDoorTxK2
import Derived.Lib.OthersKept
namespace Go.Proofs.YtomoinohfoalnaaDoor.txc
open Go.RowKit Go.Proofs.YtomoinohfoalnaaDoor.txm Go.Proofs.YtomoinohfoalnaaDoor.tlvc
set_option linter.unusedVariables false
set_option maxRecDepth 100000 in
set_option maxHeartbeats 400000 in
theorem all_any (p : Int → Bool) (f : Nat) (s : ByteArray) (w : World) (hs : s.size ≤ 9223372036854775807)
    (hent : ∀ args w, (callFunc f args).run Tryd.prog w = .ok (.enter f args) w)
    (hf : ∀ (r : Int) (w : World), Calls Tryd.prog f #[.int .i32 r] w fun e w' => e = .returned (.bool (p r)) ∧ w = w') :
    Calls Tryd.prog 25 #[.string s, .func (.func f) #[] #[]] w fun e w' => e = .returned (.bool ((runes s).all p)) ∧ Below w.heap.size w w' := by
  go_enter Tryd.func25, Tryd.ntmps25
  go_wp2_with fail
  go_loopw [6] (fun _ wr => ∃ pos n : Nat, wr = w.iter s pos ∧ (runesF s n pos).all p = (runes s).all p ∧ s.size ≤ pos + n) (fun _ wr => s.size - wr.iterPos w.heap.size)
  case atStart => exact ⟨0, s.size, rfl, rfl, by omega⟩
  case round =>
    obtain ⟨pos, n, rfl, hc, hb⟩ := hrel
    have hbel : Below w.heap.size w (w.iter s pos) := (Below.refl _ w).alloc (Nat.le_refl _) _
    by_cases hp : pos < s.size
    · have hnx : ∀ ty, (Instr.next (.pointer (some ⟨w.heap.size, 0, none⟩)) true ty).run Tryd.prog (w.iter s pos) = _ := fun ty => run_next_any w s pos ty hp
      have hwd := width_pos s pos hp
      obtain ⟨m, rfl⟩ : ∃ m, n = m + 1 := ⟨n - 1, by omega⟩
      simp only [runesF, hp, if_true, List.all_cons] at hc
      obtain ⟨r, hr⟩ : ∃ r : Nat, (Utf8.decode s pos).1 = r := ⟨_, rfl⟩
      obtain ⟨d, hd⟩ : ∃ d : Nat, (Utf8.decode s pos).2 = d := ⟨_, rfl⟩
      rw [hr, hd] at hnx hc
      rw [hd] at hwd
      have HC := Lib.hid hc
      clear hc hr hd
      go_wp2_with fail
      refine (hf _ _).mono ?_
      rintro e w' ⟨rfl, rfl⟩
      by_cases hpr : p (r : Int) = true
      · have HC2 : (runesF s m (pos + d)).all p = (runes s).all p := by rw [← HC.out, hpr]; rfl
        have HP := Lib.hid HC2
        clear HC HC2
        go_wp2
        go_roundw
        case rel => exact ⟨pos + d, m, rfl, HP.out, by omega⟩
        case measure => simp; omega
      · have hpf : p (r : Int) = false := by simpa using hpr
        have HC2 : (runes s).all p = false := by rw [← HC.out, hpf]; rfl
        have HP := Lib.hid HC2
        clear HC HC2 hpr
        go_wp2
        go_ret
        exact ⟨ret_bool HP.out.symm, (Below.refl _ w).alloc (Nat.le_refl _) _⟩
    · have hnx : ∀ ty, (Instr.next (.pointer (some ⟨w.heap.size, 0, none⟩)) true ty).run Tryd.prog (w.iter s pos) = _ := fun ty => run_next_end w s pos ty hp
      have HC2 : (runes s).all p = true := by rw [← hc, runesF_end s n pos hp]; rfl
      have HP := Lib.hid HC2
      clear HC2 hc
      go_wp2
      go_ret
      exact ⟨ret_bool HP.out.symm, hbel⟩
end Go.Proofs.YtomoinohfoalnaaDoor.txc
