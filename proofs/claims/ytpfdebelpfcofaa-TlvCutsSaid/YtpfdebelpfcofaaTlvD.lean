/- The document's own answer to Put (package warderref01): the same bytes, or the same error, as tlv.Put's contract tells. -/
import Derived.Test.YtpfdebelpfcofaaTlvC
namespace Go.Proofs.Ytpfdebelpfcofaa.tlvc
open Go.RowKit

theorem refPut_tag (t : Int) (A : Option Addr) (n c : Nat) (w : World) (ht : endlessB t = true) (h0 : 0 ≤ t) (h255 : t ≤ 255) :
    Calls Try.prog 11 #[.int .u8 t, .slice A n c] w fun e w' => e = .returned (.tuple #[.slice none 0 0, .int .i64 11]) ∧ w = w' := by
  have hm := endless_mod t h0 h255
  rw [ht] at hm
  replace hm := hm.symm
  clear ht
  go_enter Try.func11, Try.ntmps11
  go_wp2
  go_ret2
  exact ⟨rfl, rfl⟩

theorem refPut_many (t : Int) (A : Option Addr) (n c : Nat) (w : World) (ht : endlessB t = false) (h0 : 0 ≤ t) (h255 : t ≤ 255) (hn : 65535 < n) :
    Calls Try.prog 11 #[.int .u8 t, .slice A n c] w fun e w' => e = .returned (.tuple #[.slice none 0 0, .int .i64 2]) ∧ w = w' := by
  have hm := endless_mod t h0 h255
  rw [ht] at hm
  replace hm := hm.symm
  clear ht
  go_enter Try.func11, Try.ntmps11
  go_wp2
  go_ret2
  exact ⟨rfl, rfl⟩

theorem ref_b2 {w w2 : World} {c : Array Value} {e : TypeId} {o : Obj} {v : Value} {k : Nat} {xs : List Value} (h1 : (w.alloc (.cells c e)).ownsRow w.heap.size 5 1 v k xs) (hg2 : ((w.alloc (.cells c e)).alloc o).grownBy w2 v.ownBlock) : Below w.heap.size w w2 :=
  (((Below.refl _ _).alloc (Nat.le_refl _) _).alloc (by simp) o).grown hg2 (by simp; omega) fun j hj => (h1.lt j hj).1

theorem ref_own1 (w : World) (t : Int) : (w.alloc (.cells #[.int .u8 t] 5)).ownsRow w.heap.size 5 1 (.slice (some ⟨w.heap.size, 0, none⟩) 1 1) 1 (vals [t]) :=
  World.ownsRow_lit w #[.int .u8 t] 1 (Nat.le_refl _) (by decide) rfl

set_option maxRecDepth 100000 in
set_option maxHeartbeats 400000 in
theorem refPut_1 (t : Int) (A : Option Addr) (n c : Nat) (xs : List Int) (w : World) (ht : endlessB t = false) (h0 : 0 ≤ t) (h255 : t ≤ 255) (hn : n < 128) (hb : Bys w A n xs) :
    Calls Try.prog 11 #[.int .u8 t, .slice A n c] w (PutPost w (putBytes t xs)) := by
  obtain ⟨i0, hi, hz0, hz1, hz2⟩ := info_parts Try.info5
  have hft : Fit [t] := by intro x hx; simp at hx; omega
  have hfy : Fit [(n : Int)] := by intro x hx; simp at hx; omega
  have HY : Hid (hdr n = [(n : Int)]) := by show hdr n = [(n : Int)]; unfold hdr; rw [if_pos (by omega)]
  have hown1 := ref_own1 w t
  have hm : (t % 32 == 31) = false := by rw [← endless_mod t h0 h255]; exact ht
  clear ht
  go_enter Try.func11, Try.ntmps11
  go_wp2_with (first | (at_builtin; refine wpl_app rfl (.tmp 28) (.tmp 31) 22 rfl w.heap.size 5 i0 (.int .u8 0) Try.underlying22 hi hz0 hz1 hz2 rfl _ 1 (vals [t]) rfl (hown1.alloc _) _ 1 1 [(n : Int)] rfl (bys_new rfl hfy rfl (by simp)) (by omega) (by simp; omega) ?_; intro v2 w2 hown2 hg2; have hb2 : Below w.heap.size w w2 := ref_b2 hown1 hg2; clear hg2) | (at_builtin; refine wpl_app rfl (.tmp 41) (.tmp 42) 22 rfl w.heap.size 5 i0 (.int .u8 0) Try.underlying22 hi hz0 hz1 hz2 rfl v2 _ _ rfl hown2 A n c xs rfl (hb.below hb2) (by omega) hb2.size ?_; intro v4 w4 hown4 hg4))
  go_ret2
  have hl := hb.len
  refine putPost_mk ?_ (by omega) ?_ ((hft.app (hdr_fit _ (by omega) (by omega))).app hb.fit) hown2 hown4 hg4 hb2
  · rw [put_len, hl, HY.out]; simp
  · unfold putBytes; rw [hl, vals_append, vals_append, HY.out]

set_option maxRecDepth 100000 in
set_option maxHeartbeats 400000 in
theorem refPut_2 (t : Int) (A : Option Addr) (n c : Nat) (xs : List Int) (w : World) (ht : endlessB t = false) (h0 : 0 ≤ t) (h255 : t ≤ 255) (hn1 : 128 ≤ n) (hn : n ≤ 255) (hb : Bys w A n xs) :
    Calls Try.prog 11 #[.int .u8 t, .slice A n c] w (PutPost w (putBytes t xs)) := by
  obtain ⟨i0, hi, hz0, hz1, hz2⟩ := info_parts Try.info5
  have hft : Fit [t] := by intro x hx; simp at hx; omega
  have hfy : Fit [129, (n : Int)] := by intro x hx; simp at hx; omega
  have HY : Hid (hdr n = [129, (n : Int)]) := by show hdr n = [129, (n : Int)]; unfold hdr; rw [if_neg (by omega), if_pos (by omega)]
  have hown1 := ref_own1 w t
  have hm : (t % 32 == 31) = false := by rw [← endless_mod t h0 h255]; exact ht
  clear ht
  go_enter Try.func11, Try.ntmps11
  go_wp2_with (first | (at_builtin; refine wpl_app rfl (.tmp 36) (.tmp 39) 22 rfl w.heap.size 5 i0 (.int .u8 0) Try.underlying22 hi hz0 hz1 hz2 rfl _ 1 (vals [t]) rfl (hown1.alloc _) _ 2 2 [129, (n : Int)] rfl (bys_new rfl hfy rfl (by simp)) (by omega) (by simp; omega) ?_; intro v2 w2 hown2 hg2; have hb2 : Below w.heap.size w w2 := ref_b2 hown1 hg2; clear hg2) | (at_builtin; refine wpl_app rfl (.tmp 41) (.tmp 42) 22 rfl w.heap.size 5 i0 (.int .u8 0) Try.underlying22 hi hz0 hz1 hz2 rfl v2 _ _ rfl hown2 A n c xs rfl (hb.below hb2) (by omega) hb2.size ?_; intro v4 w4 hown4 hg4))
  go_ret2
  have hl := hb.len
  refine putPost_mk ?_ (by omega) ?_ ((hft.app (hdr_fit _ (by omega) (by omega))).app hb.fit) hown2 hown4 hg4 hb2
  · rw [put_len, hl, HY.out]; simp
  · unfold putBytes; rw [hl, vals_append, vals_append, HY.out]

set_option maxRecDepth 100000 in
set_option maxHeartbeats 400000 in
theorem refPut_3 (t : Int) (A : Option Addr) (n c : Nat) (xs : List Int) (w : World) (ht : endlessB t = false) (h0 : 0 ≤ t) (h255 : t ≤ 255) (hn1 : 255 < n) (hn : n ≤ 65535) (hb : Bys w A n xs) :
    Calls Try.prog 11 #[.int .u8 t, .slice A n c] w (PutPost w (putBytes t xs)) := by
  obtain ⟨i0, hi, hz0, hz1, hz2⟩ := info_parts Try.info5
  have hft : Fit [t] := by intro x hx; simp at hx; omega
  have hfy : Fit [130, (n : Int) / 256, (n : Int) % 256] := by intro x hx; simp at hx; omega
  have HY : Hid (hdr n = [130, (n : Int) / 256, (n : Int) % 256]) := by show hdr n = [130, (n : Int) / 256, (n : Int) % 256]; unfold hdr; rw [if_neg (by omega), if_neg (by omega)]
  have hown1 := ref_own1 w t
  have hm : (t % 32 == 31) = false := by rw [← endless_mod t h0 h255]; exact ht
  clear ht
  go_enter Try.func11, Try.ntmps11
  go_wp2_with (first | (at_builtin; refine wpl_app rfl (.tmp 17) (.tmp 23) 22 rfl w.heap.size 5 i0 (.int .u8 0) Try.underlying22 hi hz0 hz1 hz2 rfl _ 1 (vals [t]) rfl (hown1.alloc _) _ 3 3 [130, (n : Int) / 256, (n : Int) % 256] rfl (bys_new rfl hfy rfl (by simp)) (by omega) (by simp; omega) ?_; intro v2 w2 hown2 hg2; have hb2 : Below w.heap.size w w2 := ref_b2 hown1 hg2; clear hg2) | (at_builtin; refine wpl_app rfl (.tmp 41) (.tmp 42) 22 rfl w.heap.size 5 i0 (.int .u8 0) Try.underlying22 hi hz0 hz1 hz2 rfl v2 _ _ rfl hown2 A n c xs rfl (hb.below hb2) (by omega) hb2.size ?_; intro v4 w4 hown4 hg4))
  go_ret2
  have hl := hb.len
  refine putPost_mk ?_ (by omega) ?_ ((hft.app (hdr_fit _ (by omega) (by omega))).app hb.fit) hown2 hown4 hg4 hb2
  · rw [put_len, hl, HY.out]; simp
  · unfold putBytes; rw [hl, vals_append, vals_append, HY.out]

theorem refPut_ok (t : Int) (A : Option Addr) (n c : Nat) (xs : List Int) (w : World) (ht : endlessB t = false) (h0 : 0 ≤ t) (h255 : t ≤ 255) (hn : n ≤ 65535) (hb : Bys w A n xs) :
    Calls Try.prog 11 #[.int .u8 t, .slice A n c] w (PutPost w (putBytes t xs)) := by
  by_cases h1 : n < 128
  · exact refPut_1 t A n c xs w ht h0 h255 h1 hb
  · by_cases h2 : n ≤ 255
    · exact refPut_2 t A n c xs w ht h0 h255 (by omega) h2 hb
    · exact refPut_3 t A n c xs w ht h0 h255 (by omega) hn hb
end Go.Proofs.Ytpfdebelpfcofaa.tlvc
