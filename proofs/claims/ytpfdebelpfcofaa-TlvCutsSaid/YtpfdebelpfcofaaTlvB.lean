/- tlv.appendLength puts the bytes of a length behind a row of the call's own; conditions: the length is 0 to 65535, the row has fewer than 2^47 - 8 bytes. -/
import Derived.Test.YtpfdebelpfcofaaTlvA
import Derived.Test.YtpfdebelpfcofaaTlvKit
import Derived.Lib.SlBytesConst
namespace Go.Proofs.Ytpfdebelpfcofaa.tlvc
open Go.RowKit

theorem Try.info5 : (Try.prog.info? 5).map (fun i => (i.zero, i.size, i.bytes)) = some (some (.int .u8 0), 1, 1) := by kernel_rfl

/-- The bytes of a length. -/
def hdr (n : Int) : List Int := if n < 128 then [n] else if n ≤ 255 then [129, n] else [130, n / 256, n % 256]

def LenPost (base : Nat) (k : Nat) (xs : List Value) (n : Int) (w : World) (e : Ending) (w' : World) : Prop :=
  ∃ v', e = .returned v' ∧ w'.ownsRow base 5 1 v' (k + (hdr n).length) (xs ++ vals (hdr n)) ∧ Below base w w'

theorem bys_new {w : World} {xs : List Int} {c : Array Value} {e : TypeId} {fr : Nat × Nat} {b m : Nat} (hc : c = (vals xs).toArray) (hf : Fit xs) (hm : m = xs.length) (hb : b = w.heap.size) : Bys (w.alloc (.cells c e fr)) (some ⟨b, 0, none⟩) m xs := by
  subst hc hm hb
  refine ⟨rfl, hf, fun _ => ⟨_, _, rfl, by simp, fun j hj => ?_⟩⟩
  rw [Nat.zero_add, World.cell?_alloc_mark]
  simp [vals, List.getD_eq_getElem?_getD, List.getElem?_eq_getElem hj]

theorem lenPost_mk {base k : Nat} {xs : List Value} {n : Int} {w w0 w' : World} {v v' : Value} {ys : List Int} {m : Nat} (hy : hdr n = ys) (hm : m = ys.length) (hv : w0.ownsRow base 5 1 v k xs) (h : w'.ownsRow base 5 1 v' (k + m) (xs ++ vals ys))
    (hg : w0.grownBy w' v.ownBlock) (hb : Below base w w0) (hs : base ≤ w0.heap.size) : LenPost base k xs n w (.returned v') w' := by
  subst hy hm
  exact ⟨v', rfl, h, hb.grown hg hs fun j hj => (hv.lt j hj).1⟩

set_option maxHeartbeats 400000 in
theorem appendLength_1 (base : Nat) (v : Value) (k : Nat) (xs : List Value) (n : Int) (w : World) (hown : w.ownsRow base 5 1 v k xs) (hk : k ≤ 140737488355320) (h0 : 0 ≤ n) (hn : n < 128) (hbase : base ≤ w.heap.size) :
    Calls Try.prog 16 #[v, .int .i64 n] w (LenPost base k xs n w) := by
  obtain ⟨i0, hi, hz0, hz1, hz2⟩ := info_parts Try.info5
  have hw : widthN n = 1 := by simp [widthN, hn]
  have HY : Hid (hdr n = [n]) := by show hdr n = [n]; simp [hdr, hn]
  have hf : Fit [n] := by intro x hx; simp at hx; omega
  go_enter Try.func16, Try.ntmps16
  go_wp2_with (first | (go_at_call 15; refine (width_any _ _).mono ?_; rintro e w' ⟨rfl, rfl⟩; rw [hw]) | (at_builtin; refine wpl_app rfl (.tmp 9) (.tmp 12) 22 rfl base 5 i0 (.int .u8 0) Try.underlying22 hi hz0 hz1 hz2 rfl v k xs rfl (hown.alloc _) _ 1 1 [n] rfl (bys_new rfl hf rfl (by simp)) (by omega) (by simp; omega) ?_))
  intro v' w1 ho hg
  go_wp2
  go_ret
  exact lenPost_mk HY.out rfl (hown.alloc _) ho hg ((Below.refl _ _).alloc hbase _) (by simp; omega)

set_option maxHeartbeats 400000 in
theorem appendLength_2 (base : Nat) (v : Value) (k : Nat) (xs : List Value) (n : Int) (w : World) (hown : w.ownsRow base 5 1 v k xs) (hk : k ≤ 140737488355320) (h0 : 128 ≤ n) (hn : n ≤ 255) (hbase : base ≤ w.heap.size) :
    Calls Try.prog 16 #[v, .int .i64 n] w (LenPost base k xs n w) := by
  obtain ⟨i0, hi, hz0, hz1, hz2⟩ := info_parts Try.info5
  have hw : widthN n = 2 := by simp [widthN, hn]; omega
  have HY : Hid (hdr n = [129, n]) := by show hdr n = [129, n]; simp [hdr, hn]; omega
  have hf : Fit [129, n] := by intro x hx; simp at hx; omega
  go_enter Try.func16, Try.ntmps16
  go_wp2_with (first | (go_at_call 15; refine (width_any _ _).mono ?_; rintro e w' ⟨rfl, rfl⟩; rw [hw]) | (at_builtin; refine wpl_app rfl (.tmp 16) (.tmp 19) 22 rfl base 5 i0 (.int .u8 0) Try.underlying22 hi hz0 hz1 hz2 rfl v k xs rfl (hown.alloc _) _ 2 2 [129, n] rfl (bys_new rfl hf rfl (by simp)) (by omega) (by simp; omega) ?_))
  intro v' w1 ho hg
  go_wp2
  go_ret
  exact lenPost_mk HY.out rfl (hown.alloc _) ho hg ((Below.refl _ _).alloc hbase _) (by simp; omega)

set_option maxHeartbeats 400000 in
theorem appendLength_3 (base : Nat) (v : Value) (k : Nat) (xs : List Value) (n : Int) (w : World) (hown : w.ownsRow base 5 1 v k xs) (hk : k ≤ 140737488355320) (h0 : 255 < n) (hn : n ≤ 65535) (hbase : base ≤ w.heap.size) :
    Calls Try.prog 16 #[v, .int .i64 n] w (LenPost base k xs n w) := by
  obtain ⟨i0, hi, hz0, hz1, hz2⟩ := info_parts Try.info5
  have hw : widthN n = 3 := by simp [widthN]; omega
  have HY : Hid (hdr n = [130, n / 256, n % 256]) := by show hdr n = [130, n / 256, n % 256]; unfold hdr; rw [if_neg (by omega), if_neg (by omega)]
  have hf : Fit [130, n / 256, n % 256] := by intro x hx; simp at hx; omega
  go_enter Try.func16, Try.ntmps16
  go_wp2_with (first | (go_at_call 15; refine (width_any _ _).mono ?_; rintro e w' ⟨rfl, rfl⟩; rw [hw]) | (at_builtin; refine wpl_app rfl (.tmp 21) (.tmp 27) 22 rfl base 5 i0 (.int .u8 0) Try.underlying22 hi hz0 hz1 hz2 rfl v k xs rfl (hown.alloc _) _ 3 3 [130, n / 256, n % 256] rfl (bys_new rfl hf rfl (by simp)) (by omega) (by simp; omega) ?_))
  intro v' w1 ho hg
  go_wp2
  go_ret
  exact lenPost_mk HY.out rfl (hown.alloc _) ho hg ((Below.refl _ _).alloc hbase _) (by simp; omega)
end Go.Proofs.Ytpfdebelpfcofaa.tlvc
