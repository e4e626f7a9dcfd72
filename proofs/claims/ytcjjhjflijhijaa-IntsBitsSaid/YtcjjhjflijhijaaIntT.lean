/- The document's OID. -/
import Derived.Test.YtcjjhjflijhijaaIntR
import Derived.Test.YtcjjhjflijhijaaIntS
namespace Go.Proofs.Ytcjjhjflijhijaa.intc
open Go.RowKit Go.Proofs.Ytcjjhjflijhijaa.tlvc Go.Proofs.Ytcjjhjflijhijaa.intm
set_option linter.unusedVariables false

/-- What is out, at the outer loop's head. -/
structure OutRow (B : Nat) (w : World) (ns : List Int) (v : Value) (wr : World) : Prop where
  own : wr.ownsRow B 3 1 v (unnum ns).length (ivals (unnum ns))
  nil_ : ns = [] → v = .slice none 0 0
  below : Below B w wr

theorem getD_drop {xs : List Int} {a j : Nat} : (xs.drop a).getD j 0 = xs.getD (a + j) 0 := by
  simp [List.getD_eq_getElem?_getD, List.getElem?_drop]
theorem take_drop_next {xs : List Int} {a j : Nat} {x : Int} (h : a + j < xs.length) (hx : xs.getD (a + j) 0 = x) : (xs.drop a).take (j + 1) = (xs.drop a).take j ++ [x] :=
  take_next (by rw [List.length_drop]; omega) (by rw [getD_drop]; exact hx)
theorem all_next {xs : List Int} {a j : Nat} {x : Int} (h : ∀ z ∈ (xs.drop a).take j, 128 ≤ z) (ht : (xs.drop a).take (j + 1) = (xs.drop a).take j ++ [x]) (hx : 128 ≤ x) : ∀ z ∈ (xs.drop a).take (j + 1), 128 ≤ z := by
  intro z hz
  rw [ht] at hz
  rcases List.mem_append.1 hz with h' | h'
  · exact h z h'
  · simp at h'; omega

theorem out_first {B : Nat} {w wr w' : World} {ps : List Int} {v' : Value} {V : Int} {o : Obj} (hB : B ≤ wr.heap.size) (h4 : Below B w wr) (hps : arcs2 V = ps)
    {n : Nat} (hn : n = ps.length) (ho : w'.ownsRow B 3 1 v' n (ivals ps)) (hg : (wr.alloc o).grownBy w' none) : OutRow B w ([] ++ [V]) v' w' := by
  subst hn
  have e : unnum ([] ++ [V]) = ps := by rw [unnum_snoc, if_pos rfl, hps]
  refine ⟨?_, fun e => by simp at e, (h4.alloc hB o).grown hg (by simp; omega) fun j hj => by cases hj⟩
  rw [e]; exact ho
theorem out_next {B : Nat} {w wr w' : World} {ns : List Int} {v v' : Value} {V : Int} {o : Obj} (hB : B ≤ wr.heap.size) (h : OutRow B w ns v wr) (hne : ns ≠ [])
    {n : Nat} (hn : n = (unnum ns).length + 1) (ho : w'.ownsRow B 3 1 v' n (ivals (unnum ns) ++ ivals [V])) (hg : (wr.alloc o).grownBy w' v.ownBlock) : OutRow B w (ns ++ [V]) v' w' := by
  subst hn
  have e : unnum (ns ++ [V]) = unnum ns ++ [V] := by rw [unnum_snoc, if_neg hne]
  refine ⟨?_, fun e => by simp at e, (h.below.alloc hB o).grown hg (by simp; omega) fun j hj => (h.own.lt j hj).1⟩
  rw [e, ivals_append, List.length_append]; exact ho
theorem out_done {w wr : World} {xs ns : List Int} {v : Value} (h : OutRow w.heap.size w ns v wr) (hr : intm.Read xs xs.length ns) (hne : ns ≠ []) : IOMade w (oidF xs).1 (oidF xs).2 (.returned (.tuple #[v, .int .i64 0])) wr := by
  rw [read_done hr hne]
  obtain ⟨A, c, rfl, hh⟩ := iHere_own h.own (unnum_i64 hr.arcs)
  exact ⟨A, c, rfl, hh, h.below⟩
theorem io_bad {w wr : World} {xs : List Int} (h : oidF xs = ([], 22)) (hb : Below w.heap.size w wr) : IOMade w (oidF xs).1 (oidF xs).2 (.returned (.tuple #[.slice none 0 0, .int .i64 22])) wr := by
  rw [h]; exact ioMade_none _ _ _ hb
theorem and7 {y : Int} (h0 : 0 ≤ y) (h : y ≤ 255) : bits .and .u8 y 127 = y % 128 :=
  bits_mask .u8 8 (by decide) (fun n h₀ h₁ => by rw [IntKind.wrap_u8]; omega) 7 (by decide) y h0 (by omega)

set_option maxRecDepth 100000 in
set_option maxHeartbeats 2000000 in
theorem refOID_any (A : Option Addr) (n c : Nat) (xs : List Int) (w : World) (hb : Bys w A n xs) (hc : n ≤ c) (hm : c ≤ maxLen) :
    Calls Try.prog 20 #[.slice A n c] w (IOMade w (oidF xs).1 (oidF xs).2) := by
  unfold maxLen at hm
  obtain ⟨i0, hi0, hz0, hz1, hz2⟩ := info_parts Try.info3
  have hstart : OutRow w.heap.size w [] (.slice none 0 0) w := ⟨World.ownsRow_nil _ _ _ _, fun _ => rfl, Below.refl _ _⟩
  have hread := read_zero xs
  have hlen := hb.len
  have HL := Lib.hid hlen
  have hfit := Lib.hid (bys_fits hb)
  clear hlen
  go_enter Try.func20, Try.ntmps20
  go_wp2
  go_loopw [4, 5] (fun v y wr => ∃ (a : Nat) (ns : List Int), y = .int .i64 a ∧ a ≤ n ∧ intm.Read xs a ns ∧ OutRow w.heap.size w ns v wr) (fun _ y _ => n - (intOf y).toNat)
  case atStart => exact ⟨0, [], rfl, by omega, hread, hstart⟩
  case round =>
    obtain ⟨a, ns, rfl, ha, hrd, hor⟩ := hrel
    obtain ⟨wo, rfl⟩ : ∃ wo : World, wo = wr := ⟨_, rfl⟩
    clear hread hstart
    by_cases hlt : a < n
    · have hB := hor.below.size
      obtain ⟨b, off, hA, _, hcl⟩ := (hb.below hor.below).2.2 (by omega)
      subst hA
      have HC := Lib.hid hcl
      have hca := hcl a hlt
      by_cases h128 : xs.getD a 0 = 128
      · have hbad := io_bad (none_head hrd (by rw [HL.out]; exact hlt) h128) hor.below
        rw [h128] at hca
        clear hcl h128 hrd hor
        go_wp2
        go_ret2
        exact hbad
      · have H128 := Lib.hid h128
        obtain ⟨x0, hx0⟩ : ∃ x0, xs.getD a 0 = x0 := ⟨_, rfl⟩
        rw [hx0] at hca h128
        have hne : (x0 == 128) = false := by simpa using h128
        clear hcl h128 hx0
        go_wp2
        go_loop [5, 6] (fun y x => ∃ j : Nat, y = .int .i64 ((a + j : Nat) : Int) ∧ a + j ≤ n ∧ (∀ z ∈ (xs.drop a).take j, 128 ≤ z) ∧ x = .int .i64 (val ((xs.drop a).take j)) ∧ val ((xs.drop a).take j) ≤ 268435455) (fun y _ => n - (intOf y).toNat)
        case atStart => exact ⟨0, rfl, by omega, fun z hz => by simp at hz, rfl, by show (0 : Int) ≤ 268435455; decide⟩
        case round =>
          obtain ⟨j, rfl, hj, hall, rfl, hV⟩ := hrel
          have hV0 := val_nonneg ((xs.drop a).take j)
          obtain ⟨V, hVV⟩ : ∃ V, val ((xs.drop a).take j) = V := ⟨_, rfl⟩
          rw [hVV] at hV hV0 ⊢
          by_cases hlt2 : a + j < n
          · have hcj := HC.out (a + j) hlt2
            have hxb := hb.fit.getD (a + j)
            obtain ⟨x, hx⟩ : ∃ x, xs.getD (a + j) 0 = x := ⟨_, rfl⟩
            have ht := take_drop_next (by rw [HL.out]; exact hlt2) hx
            rw [hx] at hcj hxb
            have hvn : val ((xs.drop a).take (j + 1)) = V * 128 + x % 128 := by rw [ht, val_snoc, hVV]
            have HT := Lib.hid ht
            have HVN := Lib.hid hvn
            clear ht hvn hx hca hne hVV
            by_cases hx8 : 128 ≤ x
            · have hand := and7 hxb.1 hxb.2
              have hor7 := or_i64 7 (by decide) (V * 128) (x % 128) (by unfold I64; omega) (by omega) (by omega) (by omega)
              have hallN := all_next hall HT.out hx8
              have HALL := Lib.hid hallN
              clear hall hallN
              by_cases hbig : 268435455 < V * 128 + x % 128
              · have hbad := io_bad (none_great hrd (by rw [HL.out]; exact hlt) HALL.out (by rw [HVN.out]; exact hbig)) hor.below
                clear hrd hor
                go_wp2
                go_ret2
                exact hbad
              · go_wp2
                go_round
                case rel => exact ⟨j + 1, by go_num, by omega, HALL.out, by rw [HVN.out], by rw [HVN.out]; omega⟩
                case measure => simp [intOf]; omega
            · have hmod : x % 128 = x := by omega
              have hor7 := or_i64 7 (by decide) (V * 128) x (by unfold I64; omega) (by omega) (by omega) (by omega)
              have HALL := Lib.hid hall
              have hvn2 : val ((xs.drop a).take (j + 1)) = V * 128 + x := by rw [HVN.out, hmod]
              have HVN2 := Lib.hid hvn2
              clear hall hmod hvn2
              by_cases hbig : 268435455 < V * 128 + x
              · have hbad := io_bad (none_last hrd (by rw [HL.out]; exact hlt) HALL.out (by omega) HT.out (by rw [HVN2.out]; exact hbig)) hor.below
                clear hrd hor
                go_wp2
                go_ret2
                exact hbad
              · by_cases hmany : ns.length = 15
                · have hbad := io_bad (none_many hrd (by rw [HL.out]; exact hlt) hmany) hor.below
                  have hul := unnum_length (ns := ns)
                  have hns : ns ≠ [] := by intro e; rw [e] at hmany; simp at hmany
                  rw [if_neg hns] at hul
                  obtain ⟨A4, c4, rfl, hc41, hc42, _⟩ := own_shape hor.own
                  have h16 : 16 ≤ (unnum ns).length := by omega
                  clear hrd hor hmany hul hns
                  go_wp2
                  go_ret2
                  exact hbad
                · have hfew : ns.length < 15 := by have := hrd.few; omega
                  have hnext := read_step hrd hfit.out (by rw [HL.out]; exact hlt2) HALL.out (by omega) HT.out H128.out (by rw [HVN2.out]; omega) hfew
                  rw [HVN2.out] at hnext
                  by_cases hns : ns = []
                  · subst hns
                    obtain rfl := hor.nil_ rfl
                    have hW : 0 ≤ V * 128 + x ∧ V * 128 + x ≤ 268435455 := by omega
                    have hps := arcs2_pos hW.1
                    have HPS := Lib.hid hps
                    have hbel := hor.below
                    clear hrd hor hfew hmany hps
                    by_cases hT2 : (V * 128 + x) / 40 ≤ 2
                    · go_wp2_with (at_builtin; refine wpl_iapp rfl (.tmp 72) (.tmp 78) 29 rfl w.heap.size 3 i0 (.int .i64 0) Try.underlying29 hi0 hz0 hz1 hz2 rfl (.slice none 0 0) 0 [] rfl (World.ownsRow_nil _ _ _ _) _ 2 2 [(V * 128 + x) / 40, V * 128 + x - 40 * ((V * 128 + x) / 40)] rfl (ins_new rfl (fit8_two (by unfold I64; omega) (by unfold I64; omega)) rfl (by simp)) (by omega) (by simp; omega) ?_; intro v' w2 ho2 hg2 _)
                      go_roundw
                      case rel => exact ⟨a + j + 1, _, by go_num, by omega, hnext, out_first hB hbel (by rw [HPS.out, if_pos hT2]) rfl ho2 hg2⟩
                      case measure => simp [intOf]; omega
                    · go_wp2_with (at_builtin; refine wpl_iapp rfl (.tmp 72) (.tmp 78) 29 rfl w.heap.size 3 i0 (.int .i64 0) Try.underlying29 hi0 hz0 hz1 hz2 rfl (.slice none 0 0) 0 [] rfl (World.ownsRow_nil _ _ _ _) _ 2 2 [2, V * 128 + x - 80] rfl (ins_new rfl (fit8_two (by unfold I64; omega) (by unfold I64; omega)) rfl (by simp)) (by omega) (by simp; omega) ?_; intro v' w2 ho2 hg2 _)
                      go_roundw
                      case rel => exact ⟨a + j + 1, _, by go_num, by omega, hnext, out_first hB hbel (by rw [HPS.out, if_neg hT2]) rfl ho2 hg2⟩
                      case measure => simp [intOf]; omega
                  · have hul := unnum_length (ns := ns)
                    rw [if_neg hns] at hul
                    have hnl : 0 < ns.length := by cases ns with | nil => exact absurd rfl hns | cons _ _ => simp
                    obtain ⟨A4, c4, rfl, hc41, hc42, _⟩ := own_shape hor.own
                    have hNS := Lib.hid hns
                    have hl16 : (unnum ns).length < 16 := by omega
                    have hl1 : 0 < (unnum ns).length := by omega
                    have hown := hor.own
                    have HOR := Lib.hid hor
                    clear hrd hfew hmany hns hul hor
                    go_wp2_with (at_builtin; refine wpl_iapp rfl (.tmp 65) (.tmp 67) 29 rfl w.heap.size 3 i0 (.int .i64 0) Try.underlying29 hi0 hz0 hz1 hz2 rfl (.slice A4 (unnum ns).length c4) _ _ rfl (hown.alloc _) _ 1 1 [V * 128 + x] rfl (ins_new rfl (fit8_one (by unfold I64; omega)) rfl (by simp)) (by omega) (by simp; omega) ?_; intro v' w2 ho2 hg2 _)
                    go_roundw
                    case rel => exact ⟨a + j + 1, _, by go_num, by omega, hnext, out_next hB HOR.out hNS.out rfl ho2 hg2⟩
                    case measure => simp [intOf]; omega
          · have hbad := io_bad (none_end hrd (by rw [HL.out]; exact hlt) (by rwa [List.take_of_length_le (by rw [List.length_drop, HL.out]; omega)] at hall)) hor.below
            clear hrd hor hall hVV hca hne
            go_wp2
            go_ret2
            exact hbad
    · by_cases hns : ns = []
      · subst hns
        have hx0 : xs.length = 0 := by
          have h2 : (xs.take a).length = 0 := by rw [← hrd.told]; rfl
          rw [List.length_take] at h2
          have := HL.out
          omega
        have hbad := io_bad (none_empty hx0) hor.below
        obtain rfl := hor.nil_ rfl
        clear hrd hor hx0
        go_wp2
        go_ret2
        exact hbad
      · obtain rfl : a = n := by omega
        have hdone := out_done hor (by rw [HL.out]; exact hrd) hns
        have hul := unnum_length (ns := ns)
        rw [if_neg hns] at hul
        obtain ⟨A4, c4, rfl, hc41, hc42, _⟩ := own_shape hor.own
        have hnl : 0 < ns.length := by cases ns with | nil => exact absurd rfl hns | cons _ _ => simp
        have h2 : ¬ (unnum ns).length < 2 := by omega
        have HUL := Lib.hid hul
        clear hrd hor hns hul
        go_wp2
        go_ret2
        exact hdone
end Go.Proofs.Ytcjjhjflijhijaa.intc
