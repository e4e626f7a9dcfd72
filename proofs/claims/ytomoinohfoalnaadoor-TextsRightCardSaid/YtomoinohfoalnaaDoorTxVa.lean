/- A slice of bytes that reads as a text; the number that its first eight bytes spell. -/
import Derived.Test.YtomoinohfoalnaaDoorKitB
import Derived.Test.YtomoinohfoalnaaDoorProg
import Derived.Lib.ValidAsc
import Derived.Lib.Walk
import Derived.Lib.Endian
import Derived.Lib.EndianBits
import Derived.RegionTactic
import Derived.Deep.Draws
import Derived.Deep.QuietTactic
import Derived.Shelf.Unicode.WordAny
namespace Go.Proofs.YtomoinohfoalnaaDoor.tlvc
open Go.RowKit
set_option linter.unusedVariables false

/-- In the world w the slice at A, of n elements, holds the bytes of the text t. -/
def TB (w : World) (A : Option Addr) (n : Nat) (t : ByteArray) : Prop :=
  t.size = n ∧ (0 < n → ∃ b off, A = some ⟨b, off, none⟩ ∧ b < w.heap.size ∧ ∀ j, j < n → w.cell? ⟨b, off + j, none⟩ = some (.int .u8 ((t.get! j).toNat : Int)))
theorem TB.of_bys {w : World} {A : Option Addr} {n : Nat} {xs : List Int} (h : Bys w A n xs) : TB w A n (strOfNums xs) := by
  refine ⟨by rw [strOfNums_size]; exact h.1, fun hn => ?_⟩
  obtain ⟨b, off, e, hb, hc⟩ := h.2.2 hn
  refine ⟨b, off, e, hb, fun j hj => ?_⟩
  rw [hc j hj]
  have hf := h.2.1.getD j
  have e2 : (strOfNums xs).get! j = UInt8.ofNat (xs.getD j 0).toNat := by
    rw [← Lib.getD_get!', strOfNums_data, List.getD_eq_getElem?_getD, List.getD_eq_getElem?_getD, List.getElem?_map]
    cases xs[j]? <;> rfl
  have e3 : (((strOfNums xs).get! j).toNat : Int) = xs.getD j 0 := by
    rw [e2, UInt8.toNat_ofNat']
    omega
  rw [e3]
theorem TB.below {w w' : World} {A : Option Addr} {n : Nat} {t : ByteArray} (h : TB w A n t) (hb : Below w.heap.size w w') : TB w' A n t :=
  ⟨h.1, fun hn => by
    obtain ⟨b, off, e, hl, hc⟩ := h.2 hn
    exact ⟨b, off, e, Nat.lt_of_lt_of_le hl hb.size, fun j hj => (hb.cell (p := ⟨b, off + j, none⟩) hl).trans (hc j hj)⟩⟩
theorem get_cut (t : ByteArray) (k j : Nat) : (t.extract k t.size).get! j = t.get! (k + j) := by
  rw [← Lib.getD_get!', ← Lib.getD_get!', Lib.ext_list, List.getD_eq_getElem?_getD, List.getD_eq_getElem?_getD, List.getElem?_drop]
theorem TB.cut {w : World} {A : Option Addr} {n : Nat} {t : ByteArray} (h : TB w A n t) {k : Nat} (hk : k ≤ n) : TB w (if n = k then A else A.map (·.add k)) (n - k) (t.extract k t.size) := by
  refine ⟨by rw [Lib.ext_size, h.1], fun hn => ?_⟩
  obtain ⟨b, off, rfl, hb, hc⟩ := h.2 (by omega)
  rw [if_neg (by omega)]
  refine ⟨b, off + k, by simp [Addr.add_lit], hb, fun j hj => ?_⟩
  rw [Nat.add_assoc, hc (k + j) (by omega), get_cut]
end Go.Proofs.YtomoinohfoalnaaDoor.tlvc
namespace Go.Proofs.YtomoinohfoalnaaDoor.txc
open Go.RowKit Go.Proofs.YtomoinohfoalnaaDoor.tlvc
set_option linter.unusedVariables false
def leW (t : ByteArray) : Nat := Lib.leNat [t.get! 0, t.get! 1, t.get! 2, t.get! 3, t.get! 4, t.get! 5, t.get! 6, t.get! 7]
set_option maxHeartbeats 8000000 in
set_option maxRecDepth 100000 in
theorem wordB_any (A : Option Addr) (n c : Nat) (t : ByteArray) (w : World) (h : TB w A n t) (hn : 8 ≤ n) :
    Calls Tryd.prog 46 #[.slice A n c] w fun e w' => e = .returned (.int .u64 (leW t)) ∧ ∃ q, w' = w.drewN q := by
  obtain ⟨b, off, rfl, hb, hc⟩ := h.2 (by omega)
  unfold leW
  obtain ⟨x0, hx0⟩ : ∃ x0, t.get! 0 = x0 := ⟨_, rfl⟩
  obtain ⟨x1, hx1⟩ : ∃ x1, t.get! 1 = x1 := ⟨_, rfl⟩
  obtain ⟨x2, hx2⟩ : ∃ x2, t.get! 2 = x2 := ⟨_, rfl⟩
  obtain ⟨x3, hx3⟩ : ∃ x3, t.get! 3 = x3 := ⟨_, rfl⟩
  obtain ⟨x4, hx4⟩ : ∃ x4, t.get! 4 = x4 := ⟨_, rfl⟩
  obtain ⟨x5, hx5⟩ : ∃ x5, t.get! 5 = x5 := ⟨_, rfl⟩
  obtain ⟨x6, hx6⟩ : ∃ x6, t.get! 6 = x6 := ⟨_, rfl⟩
  obtain ⟨x7, hx7⟩ : ∃ x7, t.get! 7 = x7 := ⟨_, rfl⟩
  have c0 := hc 0 (by omega)
  have c1 := hc 1 (by omega)
  have c2 := hc 2 (by omega)
  have c3 := hc 3 (by omega)
  have c4 := hc 4 (by omega)
  have c5 := hc 5 (by omega)
  have c6 := hc 6 (by omega)
  have c7 := hc 7 (by omega)
  rw [hx0, Nat.add_zero] at c0
  rw [hx1] at c1
  rw [hx2] at c2
  rw [hx3] at c3
  rw [hx4] at c4
  rw [hx5] at c5
  rw [hx6] at c6
  rw [hx7] at c7
  have h0 : x0.toNat < 256 := x0.toNat_lt
  have h1 : x1.toNat < 256 := x1.toNat_lt
  have h2 : x2.toNat < 256 := x2.toNat_lt
  have h3 : x3.toNat < 256 := x3.toNat_lt
  have h4 : x4.toNat < 256 := x4.toNat_lt
  have h5 : x5.toNat < 256 := x5.toNat_lt
  have h6 : x6.toNat < 256 := x6.toNat_lt
  have h7 : x7.toNat < 256 := x7.toNat_lt
  rw [hx0, hx1, hx2, hx3, hx4, hx5, hx6, hx7]
  have hv : ((Lib.leNat [x0, x1, x2, x3, x4, x5, x6, x7] : Nat) : Int) = (x0.toNat : Int) + (x1.toNat : Int) * 256 + (x2.toNat : Int) * 65536 + (x3.toNat : Int) * 16777216 + (x4.toNat : Int) * 4294967296 + (x5.toNat : Int) * 1099511627776 + (x6.toNat : Int) * 281474976710656 + (x7.toNat : Int) * 72057594037927936 := by
    simp only [Lib.leNat]
    push_cast
    omega
  have q0 : (0 : Int) < (n : Int) := by omega
  have p0 : 0 < n := by omega
  have q1 : (1 : Int) < (n : Int) := by omega
  have p1 : 1 < n := by omega
  have q2 : (2 : Int) < (n : Int) := by omega
  have p2 : 2 < n := by omega
  have q3 : (3 : Int) < (n : Int) := by omega
  have p3 : 3 < n := by omega
  have q4 : (4 : Int) < (n : Int) := by omega
  have p4 : 4 < n := by omega
  have q5 : (5 : Int) < (n : Int) := by omega
  have p5 : 5 < n := by omega
  have q6 : (6 : Int) < (n : Int) := by omega
  have p6 : 6 < n := by omega
  have q7 : (7 : Int) < (n : Int) := by omega
  have p7 : 7 < n := by omega
  clear hc h hx0 hx1 hx2 hx3 hx4 hx5 hx6 hx7
  have mixed : Tryd.prog.follows Departure.mixedOrders = true := by kernel_rfl
  go_enter Tryd.func46, Tryd.ntmps46
  go_wp2
  go_quiet_o (fail)
  go_wp2
  go_ret
  refine ⟨?_, _, rfl⟩
  simp (disch := omega) only [u64_wrap_id, u64_or8, u64_or16, u64_or24, u64_or32, u64_or40, u64_or48, u64_or56]
  rw [hv]
  rfl
end Go.Proofs.YtomoinohfoalnaaDoor.txc
