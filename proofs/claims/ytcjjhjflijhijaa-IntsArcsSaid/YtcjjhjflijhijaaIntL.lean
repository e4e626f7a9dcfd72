/- What the program reads of an object's body. -/
import Derived.Test.YtcjjhjflijhijaaIntK
namespace Go.Proofs.Ytcjjhjflijhijaa.intc
open Go.RowKit Go.Proofs.Ytcjjhjflijhijaa.tlvc Go.Proofs.Ytcjjhjflijhijaa.intm
set_option linter.unusedVariables false

theorem Try.info3 : (Try.prog.info? 3).map (fun i => (i.zero, i.size, i.bytes)) = some (some (.int .i64 0), 1, 8) := by kernel_rfl

theorem and_128 {y : Int} (h0 : 0 ≤ y) (h : y ≤ 255) : bits .and .u8 y 128 = if 128 ≤ y then 128 else 0 := by
  have key : ∀ k : Fin 256, bits .and .u8 (k.val : Int) 128 = if 128 ≤ (k.val : Int) then 128 else 0 := by decide +kernel
  obtain ⟨k, rfl⟩ := Int.eq_ofNat_of_zero_le h0
  exact key ⟨k, by omega⟩

/-- The integers ys in new memory (or nil, if there are none). -/
def IHere (B : Nat) (A : Option Addr) (c : Nat) (ys : List Int) (w' : World) : Prop :=
  Ins w' A ys.length ys ∧ ys.length ≤ c ∧ c ≤ maxLen ∧ (∀ b off, A = some ⟨b, off, none⟩ → B ≤ b ∧ off = 0)
def IMade (w : World) (ys : List Int) (e : Ending) (w' : World) : Prop :=
  ∃ A c, e = .returned (.slice A ys.length c) ∧ IHere w.heap.size A c ys w' ∧ Below w.heap.size w w'
theorem iHere_own {B : Nat} {w' : World} {v : Value} {n : Nat} {ys : List Int} (h : w'.ownsRow B 3 1 v n (ivals ys)) (hf : Fit8 ys) : ∃ A c, v = .slice A ys.length c ∧ IHere B A c ys w' := by
  have hn : ys.length = n := by have := h.1; rw [ivals_length] at this; omega
  subst hn
  rcases h.2 with ⟨rfl, h0⟩ | ⟨g, cap, cur, rfl, hg, hh, hc, hm, _⟩
  · have e : ys = [] := List.eq_nil_of_length_eq_zero h0
    subst e
    exact ⟨none, 0, rfl, ⟨Ins.nil_ _ _, Nat.le_refl _, Nat.zero_le _, fun _ _ h => by cases h⟩⟩
  · exact ⟨_, cap, rfl, ⟨Ins.own h hf, hc, hm, fun b off h => by cases h; exact ⟨hg, rfl⟩⟩⟩

/-- The loop's head. -/
def ArcRound (B : Nat) (w : World) (zs : List Int) (v : Value) (m : Int) (wr : World) : Prop :=
  ∃ a, runA zs = (a, m) ∧ wr.ownsRow B 3 1 v a.length (ivals a) ∧ (a = [] → v = .slice none 0 0) ∧ Below B w wr
theorem ins_new {w : World} {xs : List Int} {c : Array Value} {e : TypeId} {fr : Nat × Nat} {b m : Nat} (hc : c = (ivals xs).toArray) (hf : Fit8 xs) (hm : m = xs.length) (hb : b = w.heap.size) : Ins (w.alloc (.cells c e fr)) (some ⟨b, 0, none⟩) m xs := by
  subst hc hm hb
  refine ⟨rfl, hf, fun _ => ⟨_, _, rfl, by simp, fun j hj => ?_⟩⟩
  rw [Nat.zero_add, World.cell?_alloc_mark]
  simp [ivals, List.getD_eq_getElem?_getD, List.getElem?_eq_getElem hj]
theorem fit8_one {x : Int} (h : I64 x) : Fit8 [x] := by intro y hy; simp at hy; rw [hy]; exact h
theorem fit8_two {x y : Int} (h : I64 x) (k : I64 y) : Fit8 [x, y] := by
  intro z hz
  simp at hz
  rcases hz with rfl | rfl
  · exact h
  · exact k
theorem take_next {ys : List Int} {k : Nat} {x : Int} (h : k < ys.length) (hx : ys.getD k 0 = x) : ys.take (k + 1) = ys.take k ++ [x] := by
  rw [List.take_succ_eq_append_getElem h, ← hx]
  simp [List.getD_eq_getElem?_getD, List.getElem?_eq_getElem h]
theorem tdiv_40 {N : Int} (h : I64 N) : -9223372036854775808 ≤ 40 * N.tdiv 40 ∧ 40 * N.tdiv 40 ≤ 9223372036854775807 ∧ -40 < N - 40 * N.tdiv 40 ∧ N - 40 * N.tdiv 40 < 40 := by
  unfold I64 at h
  have h1 := Int.mul_tdiv_add_tmod N 40
  have h2 : N.tmod 40 < 40 := Int.tmod_lt_of_pos N (by decide)
  have h3 : -40 < N.tmod 40 := Int.lt_tmod_of_pos N (by decide)
  have h4 : (0 ≤ N → 0 ≤ N.tmod 40) ∧ (N ≤ 0 → N.tmod 40 ≤ 0) := ⟨fun h => Int.tmod_nonneg 40 h, fun h => by
    have := Int.tmod_nonneg (a := -N) 40 (by omega)
    rw [Int.neg_tmod] at this
    omega⟩
  omega
theorem arc_more {B : Nat} {w wr : World} {ys : List Int} {k : Nat} {v : Value} {m x N : Int} (h : ArcRound B w (ys.take k) v m wr) (hN : wrap64 (m * 128) + x % 128 = N) (hx : 128 ≤ x) (ht : ys.take (k + 1) = ys.take k ++ [x]) : ArcRound B w (ys.take (k + 1)) v N wr := by
  obtain ⟨a, h1, h2, h3, h4⟩ := h
  refine ⟨a, ?_, h2, h3, h4⟩
  rw [ht, runA_snoc, h1, ← hN]
  unfold stepA
  rw [if_pos hx]
theorem arc_first {B : Nat} {w wr w' : World} {ys ps : List Int} {k : Nat} {v' : Value} {m x N : Int} {o : Obj} (hB : B ≤ wr.heap.size) (h1 : runA (ys.take k) = ([], m)) (h4 : Below B w wr) (hN : wrap64 (m * 128) + x % 128 = N) (hx : ¬ 128 ≤ x) (ht : ys.take (k + 1) = ys.take k ++ [x]) (hps : arcs2 N = ps)
    {n : Nat} (hn : n = ps.length) (ho : w'.ownsRow B 3 1 v' n (ivals ps)) (hg : (wr.alloc o).grownBy w' none) : ArcRound B w (ys.take (k + 1)) v' 0 w' := by
  subst hn
  refine ⟨ps, ?_, ho, fun e => ?_, (h4.alloc hB o).grown hg (by simp; omega) fun j hj => by cases hj⟩
  · rw [ht, runA_snoc, h1, ← hps, ← hN]
    unfold stepA
    rw [if_neg hx, if_pos rfl]
  · exact absurd (hps.trans e) (arcs2_ne N)
theorem arc_next {B : Nat} {w wr w' : World} {ys a : List Int} {k : Nat} {v v' : Value} {m x N : Int} {o : Obj} (hB : B ≤ wr.heap.size) (h1 : runA (ys.take k) = (a, m)) (ha : a ≠ []) (h2 : wr.ownsRow B 3 1 v a.length (ivals a)) (h4 : Below B w wr) (hN : wrap64 (m * 128) + x % 128 = N) (hx : ¬ 128 ≤ x) (ht : ys.take (k + 1) = ys.take k ++ [x])
    {n : Nat} (hn : n = a.length + 1) (ho : w'.ownsRow B 3 1 v' n (ivals a ++ ivals [N])) (hg : (wr.alloc o).grownBy w' v.ownBlock) : ArcRound B w (ys.take (k + 1)) v' 0 w' := by
  subst hn
  refine ⟨a ++ [N], ?_, ?_, fun e => by simp at e, (h4.alloc hB o).grown hg (by simp; omega) fun j hj => (h2.lt j hj).1⟩
  · rw [ht, runA_snoc, h1, ← hN]
    unfold stepA
    rw [if_neg hx, if_neg ha]
  · rw [ivals_append, List.length_append]; exact ho
theorem arc_end {w wr : World} {ys : List Int} {k : Nat} {v : Value} {m : Int} (h : ArcRound w.heap.size w (ys.take k) v m wr) (hk : ys.length ≤ k) : IMade w (arcsF ys) (.returned v) wr := by
  rw [List.take_of_length_le hk] at h
  obtain ⟨a, h1, h2, h3, h4⟩ := h
  have e : arcsF ys = a := by unfold arcsF; rw [h1]
  have hf := arcsF_i64 ys
  rw [e] at hf ⊢
  obtain ⟨A, c, rfl, hh⟩ := iHere_own h2 hf
  exact ⟨A, c, rfl, hh, h4⟩
theorem arcs_len {ys a : List Int} {k : Nat} {m : Int} (h : runA (ys.take k) = (a, m)) (hk : k ≤ 60) : a.length ≤ 61 := by
  have := runA_length _ (ys.take k) rfl
  rw [h] at this
  have h2 : (ys.take k).length ≤ k := List.length_take_le _ _
  simp only [] at this
  omega

set_option maxRecDepth 100000 in
set_option maxHeartbeats 1000000 in
theorem arcsOf_few (A : Option Addr) (n c : Nat) (xs : List Int) (w : World) (hb : Bys w A n xs) (hc : n ≤ c) (hm : c ≤ maxLen) (h60 : n ≤ 60) :
    Calls Try.prog 38 #[.slice A n c] w (IMade w (arcsF xs)) := by
  unfold maxLen at hm
  obtain ⟨i0, hi0, hz0, hz1, hz2⟩ := info_parts Try.info3
  have hstart : ArcRound w.heap.size w (xs.take 0) (.slice none 0 0) 0 w := ⟨[], rfl, World.ownsRow_nil _ _ _ _, fun _ => rfl, Below.refl _ _⟩
  have hlen := hb.len
  have HL := Lib.hid hlen
  clear hlen
  go_enter Try.func38, Try.ntmps38
  go_wp2
  go_loopw [3, 4, 14] (fun v x y wr => ∃ (k : Nat) (m : Int), y = .int .i64 k ∧ k ≤ n ∧ x = .int .i64 m ∧ ArcRound w.heap.size w (xs.take k) v m wr) (fun _ _ y _ => 61 - (intOf y).toNat)
  case atStart => exact ⟨0, 0, rfl, by omega, rfl, hstart⟩
  case round =>
    obtain ⟨k, m, rfl, hk, rfl, hr⟩ := hrel
    clear hstart
    by_cases hlt : k < n
    · obtain ⟨a, h1, h2, h3, h4⟩ := hr
      have hr : ArcRound w.heap.size w (xs.take k) u3 m wr := ⟨a, h1, h2, h3, h4⟩
      obtain ⟨b, off, hA, _, hcl⟩ := (hb.below h4).2.2 (by omega)
      subst hA
      have hc1 := hcl k hlt
      obtain ⟨x, hx⟩ : ∃ x, xs.getD k 0 = x := ⟨_, rfl⟩
      have hxb := hb.fit.getD k
      rw [hx] at hc1 hxb
      have ht := take_next (ys := xs) (k := k) (by rw [HL.out]; exact hlt) hx
      obtain ⟨N, hN⟩ : ∃ N, wrap64 (m * 128) + x % 128 = N := ⟨_, rfl⟩
      have hnot := not_128 hxb.1 hxb.2
      have hand := and_128 hxb.1 hxb.2
      have hwl := wrap_low m x
      have hor := or_i64 7 (by decide) (wrap64 (m * 128)) (x % 128) (wrap_i64 _) hwl.2 (by omega) (by omega)
      rw [hN] at hor hwl
      have hNi := hwl.1
      have hNb : -9223372036854775808 ≤ N ∧ N ≤ 9223372036854775807 := hNi
      have HN := Lib.hid hN
      have HT := Lib.hid ht
      have H1 := Lib.hid h1
      have hal := arcs_len h1 (by omega)
      have haf : Fit8 a := by have := (runA_i64 _ (xs.take k) rfl).1; rw [h1] at this; exact this
      have hB := h4.size
      clear hcl hx hN ht h1 hwl
      by_cases hx8 : 128 ≤ x
      · rw [if_pos hx8] at hand
        have hnext := arc_more hr HN.out hx8 HT.out
        clear hr h2 h3
        go_wp2
        go_roundw
        case rel => exact ⟨k + 1, N, by go_num, by omega, rfl, hnext⟩
        case measure => simp [intOf]; omega
      · rw [if_neg hx8] at hand
        by_cases ha : a = []
        · subst ha
          obtain rfl := h3 rfl
          have hT4 := tdiv_40 hNi
          obtain ⟨T, hT⟩ : ∃ T, N.tdiv 40 = T := ⟨_, rfl⟩
          rw [hT] at hT4
          have ha2 : arcs2 N = if T ≤ 2 then [T, N - 40 * T] else [2, N - 80] := by unfold arcs2; rw [hT]
          have HA2 := Lib.hid ha2
          clear hr ha2 h3
          have hnn : ∀ w' : World, (binOp .eql 29 (.slice none 0 0) (.slice none 0 0)).run Try.prog w' = .ok (.bool true) w' := fun w' => Lib.run_eql_slice_nil (P := Try.prog) w' 29 3 none 0 0 0 0 Try.underlying29
          by_cases hT2 : T ≤ 2
          · go_wp2_with (at_builtin; refine wpl_iapp rfl (.tmp 38) (.tmp 44) 29 rfl w.heap.size 3 i0 (.int .i64 0) Try.underlying29 hi0 hz0 hz1 hz2 rfl (.slice none 0 0) 0 [] rfl (World.ownsRow_nil _ _ _ _) _ 2 2 [T, N - 40 * T] rfl (ins_new rfl (fit8_two (by unfold I64; omega) (by unfold I64; omega)) rfl (by simp)) (by omega) (by simp; omega) ?_; intro v' w2 ho2 hg2 _)
            go_roundw
            case rel => exact ⟨k + 1, 0, by go_num, by omega, rfl, arc_first hB H1.out h4 HN.out hx8 HT.out (by rw [HA2.out, if_pos hT2]) rfl ho2 hg2⟩
            case measure => simp [intOf]; omega
          · go_wp2_with (at_builtin; refine wpl_iapp rfl (.tmp 38) (.tmp 44) 29 rfl w.heap.size 3 i0 (.int .i64 0) Try.underlying29 hi0 hz0 hz1 hz2 rfl (.slice none 0 0) 0 [] rfl (World.ownsRow_nil _ _ _ _) _ 2 2 [2, N - 80] rfl (ins_new rfl (fit8_two (by unfold I64; omega) (by unfold I64; omega)) rfl (by simp)) (by omega) (by simp; omega) ?_; intro v' w2 ho2 hg2 _)
            go_roundw
            case rel => exact ⟨k + 1, 0, by go_num, by omega, rfl, arc_first hB H1.out h4 HN.out hx8 HT.out (by rw [HA2.out, if_neg hT2]) rfl ho2 hg2⟩
            case measure => simp [intOf]; omega
        · obtain ⟨A3, c3, hv, hc31, hc32, hA3⟩ := own_shape h2
          obtain ⟨g, hg3, _, _⟩ := hA3 0 (by cases a with | nil => exact absurd rfl ha | cons _ _ => simp)
          subst hg3
          subst hv
          have hHA := Lib.hid ha
          clear hr h3 hA3 ha
          have hnn := fun w' => Lib.run_eql_slice_nil (P := Try.prog) w' 29 3 (some ⟨g, 0, none⟩) a.length c3 0 0 Try.underlying29
          go_wp2_with (at_builtin; refine wpl_iapp rfl (.tmp 24) (.tmp 26) 29 rfl w.heap.size 3 i0 (.int .i64 0) Try.underlying29 hi0 hz0 hz1 hz2 rfl (.slice (some ⟨g, 0, none⟩) a.length c3) _ _ rfl (h2.alloc _) _ 1 1 [N] rfl (ins_new rfl (fit8_one hNi) rfl (by simp)) (by omega) (by simp; omega) ?_; intro v' w2 ho2 hg2 _)
          go_roundw
          case rel => exact ⟨k + 1, 0, by go_num, by omega, rfl, arc_next hB H1.out hHA.out h2 h4 HN.out hx8 HT.out rfl ho2 hg2⟩
          case measure => simp [intOf]; omega
    · have hend := arc_end hr (by rw [HL.out]; omega)
      clear hr
      go_wp2
      go_ret
      exact hend

set_option maxRecDepth 100000 in
set_option maxHeartbeats 1000000 in
theorem arcsOf_many (A : Option Addr) (n c : Nat) (xs : List Int) (w : World) (hb : Bys w A n xs) (hc : n ≤ c) (hm : c ≤ maxLen) (h60 : 60 < n) :
    Calls Try.prog 38 #[.slice A n c] w (IMade w (arcsF (xs.take 60))) := by
  unfold maxLen at hm
  obtain ⟨i0, hi0, hz0, hz1, hz2⟩ := info_parts Try.info3
  replace hb := hb.upto (k := 60) (by omega)
  obtain ⟨ys, hys⟩ : ∃ ys, xs.take 60 = ys := ⟨_, rfl⟩
  rw [hys] at hb ⊢
  clear hys
  have hmax : max (60 : Int) 0 = 60 := by decide
  have hstart : ArcRound w.heap.size w (ys.take 0) (.slice none 0 0) 0 w := ⟨[], rfl, World.ownsRow_nil _ _ _ _, fun _ => rfl, Below.refl _ _⟩
  have hlen := hb.len
  have HL := Lib.hid hlen
  clear hlen
  go_enter Try.func38, Try.ntmps38
  go_wp2
  go_loopw [3, 4, 14] (fun v x y wr => ∃ (k : Nat) (m : Int), y = .int .i64 k ∧ k ≤ 60 ∧ x = .int .i64 m ∧ ArcRound w.heap.size w (ys.take k) v m wr) (fun _ _ y _ => 61 - (intOf y).toNat)
  case atStart => exact ⟨0, 0, rfl, by omega, rfl, hstart⟩
  case round =>
    obtain ⟨k, m, rfl, hk, rfl, hr⟩ := hrel
    clear hstart
    by_cases hlt : k < 60
    · obtain ⟨a, h1, h2, h3, h4⟩ := hr
      have hr : ArcRound w.heap.size w (ys.take k) u3 m wr := ⟨a, h1, h2, h3, h4⟩
      obtain ⟨b, off, hA, _, hcl⟩ := (hb.below h4).2.2 (by omega)
      subst hA
      have hc1 := hcl k hlt
      obtain ⟨x, hx⟩ : ∃ x, ys.getD k 0 = x := ⟨_, rfl⟩
      have hxb := hb.fit.getD k
      rw [hx] at hc1 hxb
      have ht := take_next (ys := ys) (k := k) (by rw [HL.out]; exact hlt) hx
      obtain ⟨N, hN⟩ : ∃ N, wrap64 (m * 128) + x % 128 = N := ⟨_, rfl⟩
      have hnot := not_128 hxb.1 hxb.2
      have hand := and_128 hxb.1 hxb.2
      have hwl := wrap_low m x
      have hor := or_i64 7 (by decide) (wrap64 (m * 128)) (x % 128) (wrap_i64 _) hwl.2 (by omega) (by omega)
      rw [hN] at hor hwl
      have hNi := hwl.1
      have hNb : -9223372036854775808 ≤ N ∧ N ≤ 9223372036854775807 := hNi
      have HN := Lib.hid hN
      have HT := Lib.hid ht
      have H1 := Lib.hid h1
      have hal := arcs_len h1 (by omega)
      have haf : Fit8 a := by have := (runA_i64 _ (ys.take k) rfl).1; rw [h1] at this; exact this
      have hB := h4.size
      clear hcl hx hN ht h1 hwl
      by_cases hx8 : 128 ≤ x
      · rw [if_pos hx8] at hand
        have hnext := arc_more hr HN.out hx8 HT.out
        clear hr h2 h3
        go_wp2
        go_roundw
        case rel => exact ⟨k + 1, N, by go_num, by omega, rfl, hnext⟩
        case measure => simp [intOf]; omega
      · rw [if_neg hx8] at hand
        by_cases ha : a = []
        · subst ha
          obtain rfl := h3 rfl
          have hT4 := tdiv_40 hNi
          obtain ⟨T, hT⟩ : ∃ T, N.tdiv 40 = T := ⟨_, rfl⟩
          rw [hT] at hT4
          have ha2 : arcs2 N = if T ≤ 2 then [T, N - 40 * T] else [2, N - 80] := by unfold arcs2; rw [hT]
          have HA2 := Lib.hid ha2
          clear hr ha2 h3
          have hnn : ∀ w' : World, (binOp .eql 29 (.slice none 0 0) (.slice none 0 0)).run Try.prog w' = .ok (.bool true) w' := fun w' => Lib.run_eql_slice_nil (P := Try.prog) w' 29 3 none 0 0 0 0 Try.underlying29
          by_cases hT2 : T ≤ 2
          · go_wp2_with (at_builtin; refine wpl_iapp rfl (.tmp 38) (.tmp 44) 29 rfl w.heap.size 3 i0 (.int .i64 0) Try.underlying29 hi0 hz0 hz1 hz2 rfl (.slice none 0 0) 0 [] rfl (World.ownsRow_nil _ _ _ _) _ 2 2 [T, N - 40 * T] rfl (ins_new rfl (fit8_two (by unfold I64; omega) (by unfold I64; omega)) rfl (by simp)) (by omega) (by simp; omega) ?_; intro v' w2 ho2 hg2 _)
            go_roundw
            case rel => exact ⟨k + 1, 0, by go_num, by omega, rfl, arc_first hB H1.out h4 HN.out hx8 HT.out (by rw [HA2.out, if_pos hT2]) rfl ho2 hg2⟩
            case measure => simp [intOf]; omega
          · go_wp2_with (at_builtin; refine wpl_iapp rfl (.tmp 38) (.tmp 44) 29 rfl w.heap.size 3 i0 (.int .i64 0) Try.underlying29 hi0 hz0 hz1 hz2 rfl (.slice none 0 0) 0 [] rfl (World.ownsRow_nil _ _ _ _) _ 2 2 [2, N - 80] rfl (ins_new rfl (fit8_two (by unfold I64; omega) (by unfold I64; omega)) rfl (by simp)) (by omega) (by simp; omega) ?_; intro v' w2 ho2 hg2 _)
            go_roundw
            case rel => exact ⟨k + 1, 0, by go_num, by omega, rfl, arc_first hB H1.out h4 HN.out hx8 HT.out (by rw [HA2.out, if_neg hT2]) rfl ho2 hg2⟩
            case measure => simp [intOf]; omega
        · obtain ⟨A3, c3, hv, hc31, hc32, hA3⟩ := own_shape h2
          obtain ⟨g, hg3, _, _⟩ := hA3 0 (by cases a with | nil => exact absurd rfl ha | cons _ _ => simp)
          subst hg3
          subst hv
          have hHA := Lib.hid ha
          clear hr h3 hA3 ha
          have hnn := fun w' => Lib.run_eql_slice_nil (P := Try.prog) w' 29 3 (some ⟨g, 0, none⟩) a.length c3 0 0 Try.underlying29
          go_wp2_with (at_builtin; refine wpl_iapp rfl (.tmp 24) (.tmp 26) 29 rfl w.heap.size 3 i0 (.int .i64 0) Try.underlying29 hi0 hz0 hz1 hz2 rfl (.slice (some ⟨g, 0, none⟩) a.length c3) _ _ rfl (h2.alloc _) _ 1 1 [N] rfl (ins_new rfl (fit8_one hNi) rfl (by simp)) (by omega) (by simp; omega) ?_; intro v' w2 ho2 hg2 _)
          go_roundw
          case rel => exact ⟨k + 1, 0, by go_num, by omega, rfl, arc_next hB H1.out hHA.out h2 h4 HN.out hx8 HT.out rfl ho2 hg2⟩
          case measure => simp [intOf]; omega
    · have hend := arc_end hr (by rw [HL.out]; omega)
      clear hr
      go_wp2
      go_ret
      exact hend

theorem arcsOf_any (A : Option Addr) (n c : Nat) (xs : List Int) (w : World) (hb : Bys w A n xs) (hc : n ≤ c) (hm : c ≤ maxLen) :
    Calls Try.prog 38 #[.slice A n c] w (IMade w (arcsF (xs.take 60))) := by
  by_cases h : n ≤ 60
  · have := arcsOf_few A n c xs w hb hc hm h
    rw [List.take_of_length_le (by rw [hb.len]; exact h)]
    exact this
  · exact arcsOf_many A n c xs w hb hc hm (by omega)
end Go.Proofs.Ytcjjhjflijhijaa.intc
