/- The digits of an arc: the program's appendDigits, and the document's digits. -/
import Derived.Test.YtcjjhjflijhijaaIntG
import Derived.Test.YtcjjhjflijhijaaIntQ
import Derived.Test.YtcjjhjflijhijaaKitC
namespace Go.Proofs.Ytcjjhjflijhijaa.intc
open Go.RowKit Go.Proofs.Ytcjjhjflijhijaa.tlvc Go.Proofs.Ytcjjhjflijhijaa.intm
set_option linter.unusedVariables false

def DigPost (base : Nat) (k : Nat) (xs : List Value) (n : Int) (w : World) (e : Ending) (w' : World) : Prop :=
  ∃ v', e = .returned v' ∧ w'.ownsRow base 5 1 v' (k + (digs n).length) (xs ++ vals (digs n)) ∧ Below base w w'

theorem or_128 {y : Int} (h0 : 0 ≤ y) (h : y ≤ 255) : bits .or .u8 y 128 = y % 128 + 128 := by
  have key : ∀ k : Fin 256, bits .or .u8 (k.val : Int) 128 = (k.val : Int) % 128 + 128 := by decide +kernel
  obtain ⟨k, rfl⟩ := Int.eq_ofNat_of_zero_le h0
  exact key ⟨k, by omega⟩
theorem not_128 {y : Int} (h0 : 0 ≤ y) (h : y ≤ 255) : bits .andNot .u8 y 128 = y % 128 := by
  have key : ∀ k : Fin 256, bits .andNot .u8 (k.val : Int) 128 = (k.val : Int) % 128 := by decide +kernel
  obtain ⟨k, rfl⟩ := Int.eq_ofNat_of_zero_le h0
  exact key ⟨k, by omega⟩

theorem pow7 (n : Int) (j : Nat) : n / 2 ^ (7 * (j + 1)) = n / 2 ^ (7 * j) / 128 := by
  rw [Int.ediv_ediv_of_nonneg (Int.le_of_lt (Int.pow_pos (by decide))), Nat.mul_add, Int.pow_add]
  rfl
theorem pow7_le {n : Int} (h : Arc n) (j : Nat) : 0 ≤ n / 2 ^ (7 * j) ∧ n / 2 ^ (7 * j) ≤ 268435455 := by
  unfold Arc at h
  have hp : (0 : Int) < 2 ^ (7 * j) := Int.pow_pos (by decide)
  exact ⟨Int.ediv_nonneg h.1 (Int.le_of_lt hp), Int.le_trans (Int.ediv_le_self _ h.1) h.2⟩
theorem pow7_mono {n : Int} (h : Arc n) {i j : Nat} (hij : i ≤ j) : n / 2 ^ (7 * j) ≤ n / 2 ^ (7 * i) := by
  obtain ⟨d, rfl⟩ : ∃ d, j = i + d := ⟨j - i, by omega⟩
  clear hij
  induction d with
  | zero => exact Int.le_refl _
  | succ d ih =>
    have := (pow7_le h (i + d)).1
    rw [show i + (d + 1) = (i + d) + 1 from rfl, pow7]
    omega
theorem pow7_four {n : Int} (h : Arc n) : n / 2 ^ (7 * 4) = 0 := by unfold Arc at h; omega

/-- The second loop's head: of the digits those above the place j stand. -/
def Heads (base k : Nat) (xs : List Value) (n : Int) (w : World) (j : Nat) (v : Value) (w' : World) : Prop :=
  w'.ownsRow base 5 1 v (k + (hi (n / 2 ^ (7 * (j + 1)))).length) (xs ++ vals (hi (n / 2 ^ (7 * (j + 1))))) ∧ Below base w w'

theorem heads_step {base k : Nat} {xs : List Value} {n : Int} {w w1 w2 : World} {j : Nat} {v v' : Value} {o : Obj} (hn : Arc n) (hbase : base ≤ w1.heap.size) (h : Heads base k xs n w (j + 1) v w1) (h1 : n / 2 ^ (7 * (j + 1)) ≠ 0)
    {m : Nat} {ys : List Value} (hm : m = k + (hi (n / 2 ^ (7 * (j + 1 + 1)))).length + 1) (hy : ys = xs ++ vals (hi (n / 2 ^ (7 * (j + 1 + 1)))) ++ vals [n / 2 ^ (7 * (j + 1)) % 128 + 128])
    (ho : w2.ownsRow base 5 1 v' m ys) (hg : (w1.alloc o).grownBy w2 v.ownBlock) : Heads base k xs n w j v' w2 := by
  have hb := pow7_le hn (j + 1)
  have e : hi (n / 2 ^ (7 * (j + 1))) = hi (n / 2 ^ (7 * (j + 1 + 1))) ++ [n / 2 ^ (7 * (j + 1)) % 128 + 128] := by
    rw [hi_step (by omega) (by omega), pow7 n (j + 1)]
  subst hm hy
  refine ⟨?_, (h.2.alloc hbase o).grown hg (by simp; omega) fun i hi => (h.1.lt i hi).1⟩
  rw [e, vals_append, List.length_append, ← List.append_assoc]
  exact ho

theorem heads_end {base k : Nat} {xs : List Value} {n : Int} {w w1 w2 : World} {v v' : Value} {o : Obj} (hn : Arc n) (hbase : base ≤ w1.heap.size) (h : Heads base k xs n w 0 v w1)
    {m : Nat} {ys : List Value} (hm : m = k + (hi (n / 2 ^ (7 * (0 + 1)))).length + 1) (hy : ys = xs ++ vals (hi (n / 2 ^ (7 * (0 + 1)))) ++ vals [n % 128])
    (ho : w2.ownsRow base 5 1 v' m ys) (hg : (w1.alloc o).grownBy w2 v.ownBlock) : DigPost base k xs n w (.returned v') w2 := by
  have e : digs n = hi (n / 2 ^ (7 * (0 + 1))) ++ [n % 128] := rfl
  subst hm hy
  refine ⟨v', rfl, ?_, (h.2.alloc hbase o).grown hg (by simp; omega) fun i hi => (h.1.lt i hi).1⟩
  rw [e, vals_append, List.length_append, ← List.append_assoc]
  exact ho

theorem bys_new {w : World} {xs : List Int} {c : Array Value} {e : TypeId} {fr : Nat × Nat} {b m : Nat} (hc : c = (vals xs).toArray) (hf : Fit xs) (hm : m = xs.length) (hb : b = w.heap.size) : Bys (w.alloc (.cells c e fr)) (some ⟨b, 0, none⟩) m xs := by
  subst hc hm hb
  refine ⟨rfl, hf, fun _ => ⟨_, _, rfl, by simp, fun j hj => ?_⟩⟩
  rw [Nat.zero_add, World.cell?_alloc_mark]
  simp [vals, List.getD_eq_getElem?_getD, List.getElem?_eq_getElem hj]
theorem fit_one {x : Int} (h0 : 0 ≤ x) (h : x ≤ 255) : Fit [x] := by intro y hy; simp at hy; omega

set_option maxHeartbeats 400000 in
theorem appendDigits_any (base : Nat) (v : Value) (k : Nat) (xs : List Value) (n : Int) (w : World) (hown : w.ownsRow base 5 1 v k xs) (hk : k ≤ 140737488355320) (hn : Arc n) (hbase : base ≤ w.heap.size) :
    Calls Try.prog 34 #[v, .int .i64 n] w (DigPost base k xs n w) := by
  obtain ⟨i0, hi0, hz0, hz1, hz2⟩ := info_parts Try.info5
  have hb : 0 ≤ n ∧ n ≤ 268435455 := hn
  go_enter Try.func34, Try.ntmps34
  go_wp2
  go_loop [5] (fun x => ∃ j : Nat, x = .int .i64 j ∧ j ≤ 3 ∧ (j = 0 ∨ n / 2 ^ (7 * j) ≠ 0)) (fun x => 9 - (intOf x).toNat)
  case atStart => exact ⟨0, rfl, by omega, .inl rfl⟩
  case round =>
    obtain ⟨j, rfl, hj, hjn⟩ := hrel
    by_cases hlt : n / 2 ^ (7 * (j + 1)) = 0
    · have ht : (n / 2 ^ (7 * (j + 1)) != 0) = false := by rw [hlt]; rfl
      have hstart : Heads base k xs n w j v w := by
        unfold Heads
        rw [hlt, hi_zero]
        exact ⟨by simpa [vals] using hown, Below.refl _ _⟩
      have HJ := Lib.hid hjn
      have HT := Lib.hid hlt
      clear hlt hjn
      go_wp2
      go_loopw [0, 6] (fun x y wr => ∃ i : Nat, y = .int .i64 i ∧ i ≤ j ∧ Heads base k xs n w i x wr) (fun _ y _ => (intOf y).toNat)
      case atStart => exact ⟨j, rfl, Nat.le_refl _, hstart⟩
      case round =>
        obtain ⟨i, rfl, hi, hr⟩ := hrel
        have hB : base ≤ wr.heap.size := Nat.le_trans hbase hr.2.size
        have hL : (intm.hi (n / 2 ^ (7 * (i + 1)))).length ≤ 4 := hiF_length 4 _
        rcases i with _ | i
        · have hno : bits .andNot .u8 (n % 256) 128 = n % 128 := by rw [not_128 (by omega) (by omega)]; omega
          clear HJ HT hstart
          go_wp2_with (at_builtin; refine wpl_app rfl (.tmp 29) (.tmp 33) 22 rfl base 5 i0 (.int .u8 0) Try.underlying22 hi0 hz0 hz1 hz2 rfl u0 _ _ rfl (hr.1.alloc _) _ 1 1 [n % 128] rfl (bys_new rfl (fit_one (by omega) (by omega)) rfl (by simp)) (by omega) (by simp; omega) ?_; intro v' w2 ho2 hg2)
          go_ret
          exact heads_end hn hB hr rfl rfl ho2 hg2
        · have hno : bits .or .u8 (n / 2 ^ (7 * (i + 1)) % 256) 128 = n / 2 ^ (7 * (i + 1)) % 128 + 128 := by rw [or_128 (by omega) (by omega)]; omega
          have hnz : n / 2 ^ (7 * (i + 1)) ≠ 0 := by
            have h1 := pow7_mono hn hi
            have h2 := (pow7_le hn j).1
            rcases HJ.out with h | h
            · omega
            · omega
          have HN := Lib.hid hnz
          clear HJ HT hstart hnz
          go_wp2_with (at_builtin; refine wpl_app rfl (.tmp 20) (.tmp 27) 22 rfl base 5 i0 (.int .u8 0) Try.underlying22 hi0 hz0 hz1 hz2 rfl u0 _ _ rfl (hr.1.alloc _) _ 1 1 [n / 2 ^ (7 * (i + 1)) % 128 + 128] rfl (bys_new rfl (fit_one (by omega) (by omega)) rfl (by simp)) (by omega) (by simp; omega) ?_; intro v' w2 ho2 hg2)
          go_roundw
          case rel => exact ⟨i, by go_num, by omega, heads_step hn hB hr HN.out rfl rfl ho2 hg2⟩
          case measure => simp [intOf]
    · have ht : (n / 2 ^ (7 * (j + 1)) != 0) = true := by simpa using hlt
      have hj3 : j + 1 ≤ 3 := by
        by_cases h : j = 3
        · exfalso
          subst h
          exact hlt (pow7_four hn)
        · omega
      have HT := Lib.hid hlt
      clear hlt hjn
      go_wp2
      go_round
      case rel => exact ⟨j + 1, by go_num, by omega, .inr HT.out⟩
      case measure => simp [intOf]; omega
end Go.Proofs.Ytcjjhjflijhijaa.intc
