/- tlv.Put: what it answers to any tag and any body that reads as bytes: ErrTag, ErrTooMany, or the tag, the length and the body in new memory; nothing that was there is written. -/
import Derived.Test.YtpfdebelpfcofaaTlvB
import Derived.WalkMore
import Derived.ScopeJumps
import Derived.Outline
namespace Go.Proofs.Ytpfdebelpfcofaa.tlvc
open Go.RowKit

theorem appendLength_any (base : Nat) (v : Value) (k : Nat) (xs : List Value) (n : Int) (w : World) (hown : w.ownsRow base 5 1 v k xs) (hk : k ≤ 140737488355320) (h0 : 0 ≤ n) (hn : n ≤ 65535) (hbase : base ≤ w.heap.size) :
    Calls Try.prog 16 #[v, .int .i64 n] w (LenPost base k xs n w) := by
  by_cases h1 : n < 128
  · exact appendLength_1 base v k xs n w hown hk h0 h1 hbase
  · by_cases h2 : n ≤ 255
    · exact appendLength_2 base v k xs n w hown hk (by omega) h2 hbase
    · exact appendLength_3 base v k xs n w hown hk (by omega) hn hbase

theorem hdr_length (n : Int) : (hdr n).length = if n < 128 then 1 else if n ≤ 255 then 2 else 3 := by
  unfold hdr
  split
  · rfl
  · split <;> rfl
theorem hdr_fit (n : Int) (h0 : 0 ≤ n) (hn : n ≤ 65535) : Fit (hdr n) := by
  intro x hx
  unfold hdr at hx
  split at hx
  · simp at hx; omega
  · split at hx <;> simp at hx <;> omega

/-- The bytes of a value. -/
def putBytes (t : Int) (xs : List Int) : List Int := [t] ++ hdr xs.length ++ xs

/-- What a call leaves that has made the bytes ys and hands them back beside OK. -/
def PutPost (w : World) (ys : List Int) (e : Ending) (w' : World) : Prop :=
  ∃ g cap, e = .returned (.tuple #[.slice (some ⟨g, 0, none⟩) ys.length cap, .int .i64 0]) ∧ w'.ownsRow w.heap.size 5 1 (.slice (some ⟨g, 0, none⟩) ys.length cap) ys.length (vals ys) ∧ Bys w' (some ⟨g, 0, none⟩) ys.length ys ∧ Below w.heap.size w w'

theorem own_form {w : World} {base : Nat} {e : TypeId} {v : Value} {n : Nat} {xs : List Value} (h : w.ownsRow base e 1 v n xs) (hn : 0 < n) : ∃ g cap, v = .slice (some ⟨g, 0, none⟩) n cap := by
  rcases h.2 with ⟨_, h0⟩ | ⟨g, cap, cur, hv, _⟩
  · omega
  · exact ⟨g, cap, hv⟩

theorem putPost_mk {w w1 w' : World} {v v' : Value} {k n : Nat} {xs : List Value} {ys : List Int} (hn : n = ys.length) (hpos : 0 < n) (hx : xs = vals ys) (hf : Fit ys) {xs' : List Value} (hv : w1.ownsRow w.heap.size 5 1 v k xs') (h : w'.ownsRow w.heap.size 5 1 v' n xs)
    (hg : w1.grownBy w' v.ownBlock) (hb : Below w.heap.size w w1) : PutPost w ys (.returned (.tuple #[v', .int .i64 0])) w' := by
  subst hn hx
  obtain ⟨g, cap, rfl⟩ := own_form h hpos
  exact ⟨g, cap, rfl, h, Bys.own h hf, hb.grown hg hb.size fun j hj => (hv.lt j hj).1⟩

def PutStop (w : World) (n : Int) (a' : Act) (w' : World) : Prop := w = w' ∧ a'.defers = [] ∧ a'.tmps.size = 34 ∧ a'.tmps.getD 7 undef = .int .i64 n

theorem put_tag (t : Int) (A : Option Addr) (n c : Nat) (w : World) (ht : endlessB t = true) :
    Calls Try.prog 10 #[.int .u8 t, .slice A n c] w fun e w' => e = .returned (.tuple #[.slice none 0 0, .int .i64 11]) ∧ w = w' := by
  go_enter Try.func10, Try.ntmps10
  go_wp2
  refine wp_scope_jumps 0 (PutStop w 11) (fun _ _ => 0) rfl ?_ ?_
  · go_wp2_with (first | (go_at_call 14; refine (endless_any _ _).mono ?_; rintro e w' ⟨rfl, rfl⟩; rw [ht]))
    go_step3
    exact ⟨rfl, rfl, rfl, rfl, rfl⟩
  · rintro ⟨tmps, defers⟩ w' ⟨rfl, rfl, hs, h7⟩
    go_wp2
    simp only [Exit.jump]
    go_ret2
    simp [hs]

theorem put_many (t : Int) (A : Option Addr) (n c : Nat) (w : World) (ht : endlessB t = false) (hn : 65535 < n) :
    Calls Try.prog 10 #[.int .u8 t, .slice A n c] w fun e w' => e = .returned (.tuple #[.slice none 0 0, .int .i64 2]) ∧ w = w' := by
  go_enter Try.func10, Try.ntmps10
  go_wp2
  refine wp_scope_jumps 0 (PutStop w 2) (fun _ _ => 0) rfl ?_ ?_
  · go_wp2_with (first | (go_at_call 14; refine (endless_any _ _).mono ?_; rintro e w' ⟨rfl, rfl⟩; rw [ht]))
    go_step3
    exact ⟨rfl, rfl, rfl, rfl, rfl⟩
  · rintro ⟨tmps, defers⟩ w' ⟨rfl, rfl, hs, h7⟩
    go_wp2
    simp only [Exit.jump]
    go_ret2
    simp [hs]

theorem put_len (t : Int) (xs : List Int) : (putBytes t xs).length = 1 + (hdr xs.length).length + xs.length := by simp [putBytes]; omega
theorem width_hdr (n : Int) : widthN n = (hdr n).length := by
  unfold widthN hdr
  split
  · rfl
  · split <;> rfl

theorem put_b2 {w w1 w2 : World} {o : Obj} {v : Value} (h1 : w1.ownsRow w.heap.size 5 1 v 0 []) (hg1 : w.grownBy w1 none) (hg2 : (w1.alloc o).grownBy w2 v.ownBlock) : Below w.heap.size w w2 :=
  (((Below.refl _ _).grown hg1 (Nat.le_refl _) (fun _ h => by cases h)).alloc hg1.size o).grown hg2 (by have := hg1.size; simp; omega) fun j hj => (h1.lt j hj).1

set_option maxRecDepth 100000 in
set_option maxHeartbeats 400000 in
theorem put_ok (t : Int) (A : Option Addr) (n c : Nat) (xs : List Int) (w : World) (ht : endlessB t = false) (h0 : 0 ≤ t) (h255 : t ≤ 255) (hn : n ≤ 65535) (hb : Bys w A n xs) :
    Calls Try.prog 10 #[.int .u8 t, .slice A n c] w (PutPost w (putBytes t xs)) := by
  obtain ⟨i0, hi, hz0, hz1, hz2⟩ := info_parts Try.info5
  obtain ⟨k, hk, hk3⟩ : ∃ k : Nat, widthN n = k ∧ k ≤ 3 := ⟨(hdr n).length, width_hdr n, by rw [hdr_length]; split; omega; split <;> omega⟩
  have hft : Fit [t] := by intro x hx; simp at hx; omega
  have HK : Hid (k = (hdr n).length) := by have := width_hdr n; show k = _; omega
  go_enter Try.func10, Try.ntmps10
  go_wp2
  go_step3
  go_wp2_with (first | (go_at_call 14; refine (endless_any _ _).mono ?_; rintro e w' ⟨rfl, rfl⟩; rw [ht]) | (go_at_call 15; refine (width_any _ _).mono ?_; rintro e w' ⟨rfl, rfl⟩; rw [hk]) | (at_make; refine wpList_make_own _ rfl _ _ 22 rfl w.heap.size 5 i0 (.int .u8 0) 1 Try.underlying22 hi hz0 hz1 _ _ _ (1 + k + n) rfl rfl (by omega) (by rw [hz2]; omega) (by unfold maxLen; omega) (by simp) ?_; intro w1 hown1 hg1) | (at_builtin; refine wpl_app rfl (.tmp 21) (.tmp 23) 22 rfl w.heap.size 5 i0 (.int .u8 0) Try.underlying22 hi hz0 hz1 hz2 rfl _ 0 [] rfl (hown1.alloc _) _ 1 1 [t] rfl (bys_new rfl hft rfl (by simp)) (by omega) (by have := hg1.size; simp; omega) ?_; intro v2 w2 hown2 hg2; have hb2 : Below w.heap.size w w2 := put_b2 hown1 hg1 hg2; clear hg1 hg2 hown1; simp only [List.nil_append, Nat.zero_add] at hown2) | (go_at_call 16; refine (appendLength_any w.heap.size v2 1 (vals [t]) n w2 hown2 (by omega) (by omega) (by omega) hb2.size).mono ?_; rintro e w3 ⟨v3, rfl, hown3, hb3⟩; have hb3' : Below w.heap.size w w3 := hb2.trans hb3; clear hb3 hb2 hown2) | (at_builtin; refine wpl_app rfl (.tmp 29) (.tmp 30) 22 rfl w.heap.size 5 i0 (.int .u8 0) Try.underlying22 hi hz0 hz1 hz2 rfl v3 _ _ rfl hown3 A n c xs rfl (hb.below hb3') (by rw [hdr_length]; split; omega; split <;> omega) hb3'.size ?_; intro v4 w4 hown4 hg4))
  rw [Exit.noGoto_ret]
  go_ret2
  have hl := hb.len
  refine putPost_mk ?_ (by omega) ?_ ((hft.app (hdr_fit _ (by omega) (by omega))).app hb.fit) hown3 hown4 hg4 hb3'
  · rw [put_len, hl]
  · unfold putBytes; rw [hl, vals_append, vals_append]
end Go.Proofs.Ytpfdebelpfcofaa.tlvc
