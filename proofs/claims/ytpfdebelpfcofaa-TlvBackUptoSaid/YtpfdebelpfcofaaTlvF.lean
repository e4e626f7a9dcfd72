/- tlv.Head reads and writes nothing: what it answers to any bytes at any place. -/
import Derived.Test.YtpfdebelpfcofaaTlvE
import Derived.WalkMore
import Derived.ScopeJumps
import Derived.Outline
import Derived.WalkSpells
namespace Go.Proofs.Ytpfdebelpfcofaa.tlvc
open Go.RowKit

theorem or8 (x y : Int) (h0 : 0 ≤ x) (hx : x % 256 = 0) (h1 : x < 4611686018427387904) (hy0 : 0 ≤ y) (hy : y < 256) : bits .or .i64 x y = x + y :=
  bits_join .i64 62 (by decide) (fun n h₀ h₁ => by rw [IntKind.wrap_i64]; omega) 8 x y h0 hx h1 hy0 hy (by omega)
theorem or0 (y : Int) (hy0 : 0 ≤ y) (hy : y < 256) : bits .or .i64 0 y = y := by rw [or8 0 y (by decide) (by decide) (by decide) hy0 hy]; omega

set_option maxHeartbeats 400000 in
theorem length_1 (A : Option Addr) (c : Nat) (x : Int) (w : World) (hb : Bys w A 1 [x]) :
    Calls Try.prog 18 #[.slice A 1 c] w fun e w' => e = .returned (.int .i64 x) ∧ w = w' := by
  obtain ⟨b, off, rfl, _, hc⟩ := hb.2.2 (by decide)
  have hf := hb.fit x (by simp)
  have h0 : w.cell? ⟨b, off, none⟩ = some (.int .u8 x) := by simpa using hc 0 (by decide)
  go_enter Try.func18, Try.ntmps18
  go_wp2
  go_ret
  exact ⟨rfl, rfl⟩

set_option maxHeartbeats 400000 in
theorem length_2 (A : Option Addr) (c : Nat) (x y : Int) (w : World) (hc2 : 2 ≤ c) (hb : Bys w A 2 [x, y]) :
    Calls Try.prog 18 #[.slice A 2 c] w fun e w' => e = .returned (.int .i64 y) ∧ w = w' := by
  obtain ⟨b, off, rfl, _, hc⟩ := hb.2.2 (by decide)
  have hf := hb.fit y (by simp)
  have h1 : w.cell? ⟨b, off + 1, none⟩ = some (.int .u8 y) := by simpa using hc 1 (by decide)
  clear hc
  have hcap : ¬ c = 1 := by omega
  have ho := or0 y (by omega) (by omega)
  go_enter Try.func18, Try.ntmps18
  go_wp2
  refine wp_loop_rounds 2 ?_
  rw [rounds_succ]
  go_wp2
  rw [rounds_succ]
  go_wp2
  go_ret
  exact ⟨rfl, rfl⟩

set_option maxHeartbeats 400000 in
theorem length_3 (A : Option Addr) (c : Nat) (x y z : Int) (w : World) (hc2 : 3 ≤ c) (hb : Bys w A 3 [x, y, z]) :
    Calls Try.prog 18 #[.slice A 3 c] w fun e w' => e = .returned (.int .i64 (y * 256 + z)) ∧ w = w' := by
  obtain ⟨b, off, rfl, _, hc⟩ := hb.2.2 (by decide)
  have hf := hb.fit y (by simp)
  have hg := hb.fit z (by simp)
  have h1 : w.cell? ⟨b, off + 1, none⟩ = some (.int .u8 y) := by simpa using hc 1 (by decide)
  have h2 : w.cell? ⟨b, off + 1 + 1, none⟩ = some (.int .u8 z) := by simpa [Nat.add_assoc] using hc 2 (by decide)
  clear hc
  have hcap : ¬ c = 1 := by omega
  have ho := or0 y (by omega) (by omega)
  have ho2 := or8 (y * 256) z (by omega) (by omega) (by omega) (by omega) (by omega)
  go_enter Try.func18, Try.ntmps18
  go_wp2
  refine wp_loop_rounds 3 ?_
  rw [rounds_succ]
  go_wp2
  rw [rounds_succ]
  go_wp2
  rw [rounds_succ]
  go_wp2
  go_ret
  exact ⟨rfl, rfl⟩
end Go.Proofs.Ytpfdebelpfcofaa.tlvc
