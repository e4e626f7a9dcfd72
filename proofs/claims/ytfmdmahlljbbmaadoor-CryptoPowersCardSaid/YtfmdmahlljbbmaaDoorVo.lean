/- A number's mention; the document's number of bytes, bytes and mention. -/
import Derived.Test.YtfmdmahlljbbmaaDoorVn
import Derived.Test.YtfmdmahlljbbmaaDoorVe
namespace Go.Proofs.YtfmdmahlljbbmaaDoor.vtc
open Go.RowKit Go.Proofs.YtfmdmahlljbbmaaDoor.tlvc Go.Proofs.YtfmdmahlljbbmaaDoor.tmc
set_option linter.unusedVariables false
set_option maxRecDepth 100000 in
set_option maxHeartbeats 4000000 in
theorem rnumber_yes (b off c : Nat) (xs : List Int) (w : World) (hb : Bys w (some ⟨b, off, none⟩) 8 xs) (hc : 8 ≤ c) (hm : c ≤ 9223372036854775807) (h0 : xs.getD 0 0 = 193) (h1 : xs.getD 1 0 = 94) :
    Calls Tryd.prog 25 #[.slice (some ⟨b, off, none⟩) 8 c] w (NumPost w (numF xs)) := by
  obtain ⟨b', off', e, _, hcell⟩ := hb.2.2 (by omega)
  cases e
  have hfit := hb.fit
  rw [numF_yes ⟨hb.len, h0, h1⟩]
  have c0 := hcell 0 (by omega)
  have c1 := hcell 1 (by omega)
  rw [h0, Nat.add_zero] at c0
  rw [h1] at c1
  have HC := Lib.hid hcell
  have HF := Lib.hid hfit
  obtain ⟨R, hR⟩ : ∃ x, accF xs 6 = x := ⟨_, rfl⟩
  rw [hR]
  have HR := Lib.hid hR
  clear hcell hfit hb hR
  go_enter Tryd.func25, Tryd.ntmps25
  go_wp2_with fail
  go_loopg [4, 5] 8 (fun gk s4 s5 wx => ∃ (i : Nat), s4 = .int .i64 (accF xs i) ∧ s5 = .int .i64 ((2 + i : Nat) : Int) ∧ i ≤ 6 ∧ 7 - i ≤ gk ∧ wx = w)
  case atStart => exact ⟨0, rfl, rfl, by omega, by omega, rfl⟩
  case round =>
    obtain ⟨i, rfl, rfl, hi, hgk, rfl⟩ := hrel
    by_cases hlt : i < 6
    · have hltz : ((2 + i : Nat) : Int) < 8 := by omega
      have hltn : 2 + i < 8 := by omega
      obtain ⟨gk', rfl⟩ : ∃ g', gk = g' + 1 := ⟨gk - 1, by omega⟩
      have e1 : wr.cell? ⟨b, off + (2 + i), none⟩ = some (.int .u8 (xs.getD (2 + i) 0)) := HC.out (2 + i) (by omega)
      have hx := HF.out.getD (2 + i)
      have hbd := accF_bd HF.out i
      have hp := pow_le6 (show i ≤ 5 by omega)
      have hs : accF xs (i + 1) = accF xs i * 256 + xs.getD (2 + i) 0 := rfl
      obtain ⟨x, hxe⟩ : ∃ x, xs.getD (2 + i) 0 = x := ⟨_, rfl⟩
      obtain ⟨a, hae⟩ : ∃ x, accF xs i = x := ⟨_, rfl⟩
      rw [hxe] at e1 hx hs
      rw [hae] at hbd hs ⊢
      have hw := IntWalk.i64_in (a * 256) (by omega)
      have hor := or_i64 8 (by decide) (a * 256) x (by unfold I64; omega) (by omega) (by omega) (by omega)
      obtain ⟨p, hpe⟩ : ∃ p, 2 + i = p := ⟨_, rfl⟩
      have HPE := Lib.hid hpe
      rw [hpe] at hltz hltn e1 ⊢
      have HS := Lib.hid hs
      have HG := Lib.hid hgk
      clear hs hxe hae hbd hp hgk hpe
      go_wp2
      go_roundg gk'
      case measure => omega
      case rel => exact ⟨i + 1, by rw [HS.out], by have := HPE.out; go_num, by omega, by have := HG.out; omega, rfl⟩
    · have hltz : ¬ ((2 + i : Nat) : Int) < 8 := by omega
      obtain rfl : i = 6 := by omega
      have hR := HR.out
      rw [hR]
      go_wp2
      go_ret2
      exact ⟨rfl, rfl⟩
set_option maxRecDepth 100000 in
set_option maxHeartbeats 4000000 in
theorem rnumber_any (A : Option Addr) (n c : Nat) (xs : List Int) (w : World) (hb : Bys w A n xs) (hc : n ≤ c) (hm : c ≤ maxLen) :
    Calls Tryd.prog 25 #[.slice A n c] w (NumPost w (numF xs)) := by
  have hm9 : c ≤ 9223372036854775807 := by unfold maxLen at hm; omega
  by_cases h8 : n = 8
  · subst h8
    obtain ⟨b, off, rfl, _, hcell⟩ := hb.2.2 (by omega)
    by_cases h0 : xs.getD 0 0 = 193
    · by_cases h1 : xs.getD 1 0 = 94
      · exact rnumber_yes b off c xs w hb hc hm9 h0 h1
      · rw [numF_no fun h => h1 h.2.2]
        have c0 := hcell 0 (by omega)
        have c1 := hcell 1 (by omega)
        rw [h0, Nat.add_zero] at c0
        obtain ⟨x, hx⟩ : ∃ x, xs.getD 1 0 = x := ⟨_, rfl⟩
        rw [hx] at c1 h1
        clear hcell hb h0 hx
        go_enter Tryd.func25, Tryd.ntmps25
        go_wp2
        go_ret2
        exact ⟨rfl, rfl⟩
    · rw [numF_no fun h => h0 h.2.1]
      have c0 := hcell 0 (by omega)
      rw [Nat.add_zero] at c0
      obtain ⟨x, hx⟩ : ∃ x, xs.getD 0 0 = x := ⟨_, rfl⟩
      rw [hx] at c0 h0
      clear hcell hb hx
      go_enter Tryd.func25, Tryd.ntmps25
      go_wp2
      go_ret2
      exact ⟨rfl, rfl⟩
  · rw [numF_no fun h => h8 (hb.len.symm.trans h.1)]
    have h8z : ¬ (n : Int) = 8 := by omega
    clear hb
    go_enter Tryd.func25, Tryd.ntmps25
    go_wp2
    go_ret2
    exact ⟨rfl, rfl⟩
def BysPost (w : World) (xs : List Int) (e : Ending) (w' : World) : Prop := ∃ A c, e = .returned (.slice A xs.length c) ∧ Bys w' A xs.length xs ∧ (xs.length ≤ c ∧ c ≤ maxLen) ∧ Below w.heap.size w w'
theorem hbF_none {n : Int} (h : ¬ (0 ≤ n ∧ n < 281474976710656)) : hbF n = [] := if_neg h
theorem menF_none {n : Int} (h : ¬ (0 ≤ n ∧ n < 281474976710656)) : menF n = [] := if_neg h
theorem nil_post (w : World) : BysPost w [] (.returned (.slice none 0 0)) w := ⟨none, 0, rfl, Bys.nil_ _ _, ⟨Nat.le_refl _, Nat.zero_le _⟩, Below.refl _ _⟩
theorem hb_bys (n : Int) (w : World) (h : 0 ≤ n ∧ n < 281474976710656) : Bys (w.alloc (.cells (vals (hbF n)).toArray 5)) (some ⟨w.heap.size, 0, none⟩) 8 (hbF n) :=
  ⟨hbF_len h, hbF_fit n, fun _ => ⟨w.heap.size, 0, rfl, by simp, fun j hj => by
    rw [Nat.zero_add, Lib.cell_of_heap (heap_new_ _ _)]
    simp [vals, List.getD_eq_getElem?_getD, List.getElem?_eq_getElem (show j < (hbF n).length by rw [hbF_len h]; exact hj)]⟩⟩
theorem bytes_any (n : Int) (w : World) (hi : -9223372036854775808 ≤ n ∧ n ≤ 9223372036854775807) : Calls Tryd.prog 26 #[.int .i64 n] w (BysPost w (hbF n)) := by
  by_cases h : 0 ≤ n ∧ n < 281474976710656
  · refine (bytes_yes n w h).mono ?_
    rintro e w' ⟨rfl, rfl⟩
    refine ⟨_, 8, by rw [hbF_len h], by rw [hbF_len h]; exact hb_bys n w h, ⟨by rw [hbF_len h]; exact Nat.le_refl _, by decide⟩, below_new _ _⟩
  · refine (bytes_no n w hi h).mono ?_
    rintro e w' ⟨rfl, rfl⟩
    rw [hbF_none h]
    exact nil_post _
/-- Two bytes, and others behind them. -/
theorem app_two (w : World) (x y : Int) (A : Option Addr) (m c : Nat) (ys : List Int) (hb : Bys w A m ys) (hm : m ≤ 100) (hx : 0 ≤ x ∧ x ≤ 255) (hy : 0 ≤ y ∧ y ≤ 255) :
    ∃ A' c' w', (Builtin.append_ #[24, 24] 24 #[.slice (some ⟨w.heap.size, 0, none⟩) 2 2, .slice A m c]).run Tryd.prog (w.alloc (.cells #[.int .u8 x, .int .u8 y] 5)) = .ok (.slice A' (2 + m) c') w' ∧ w'.ownsRow w.heap.size 5 1 (.slice A' (2 + m) c') (2 + m) (vals (x :: y :: ys)) ∧ Bys w' A' (2 + m) (x :: y :: ys) ∧ (2 + m ≤ c' ∧ c' ≤ maxLen) ∧ Below w.heap.size w w' := by
  obtain ⟨v', w', h1, h2, h3, _⟩ := app_long (w.alloc (.cells #[.int .u8 x, .int .u8 y] 5)) w.heap.size (.slice (some ⟨w.heap.size, 0, none⟩) 2 2) 2 (vals [x, y]) (World.ownsRow_lit w #[.int .u8 x, .int .u8 y] 2 (Nat.le_refl _) (by decide) rfl) A m c ys (hb.alloc _) (by omega) (by simp)
  rw [← vals_append] at h2
  obtain ⟨A', c', rfl, g1, g2, _⟩ := own_shape h2
  refine ⟨A', c', w', h1, h2, Bys.own h2 (fun z hz => ?_), ⟨g1, g2⟩, (below_new w _).grown h3 (by simp) fun j hj => by have hj : some w.heap.size = some j := hj; cases hj; exact Nat.le_refl _⟩
  have hz : z ∈ x :: y :: ys := hz
  rw [List.mem_cons, List.mem_cons] at hz
  rcases hz with rfl | rfl | hz
  · exact hx
  · exact hy
  · exact hb.2.1 z hz
set_option maxRecDepth 100000 in
theorem mention_any (n : Int) (w : World) (hi : -9223372036854775808 ≤ n ∧ n ≤ 9223372036854775807) : Calls Tryd.prog 28 #[.int .i64 n] w (BysPost w (menF n)) := by
  by_cases h : 0 ≤ n ∧ n < 281474976710656
  · have hl := menF_len h
    have he : menF n = 4 :: 8 :: hbF n := if_pos h
    obtain ⟨A', c', w', hrun, h2, h3, h4, h5⟩ := app_two (w.alloc (.cells (vals (hbF n)).toArray 5)) 4 8 (some ⟨w.heap.size, 0, none⟩) 8 8 (hbF n) (hb_bys n w h) (by omega) (by omega) (by omega)
    rw [← he] at h3
    have HE := Lib.hid (And.intro h3 (And.intro h4 ((below_new w _).trans (h5.mono (below_new w _).size))))
    have HB := Lib.hid (bytes_yes n w h)
    have hnil := fun W => eql_nil (P := Tryd.prog) W 24 5 (some ⟨w.heap.size, 0, none⟩) 8 8 Tryd.underlying24
    obtain ⟨W1, hW1⟩ : ∃ x, w.alloc (.cells (vals (hbF n)).toArray 5) = x := ⟨_, rfl⟩
    rw [hW1] at HB hrun
    clear h2 h3 h4 h5
    go_enter Tryd.func28, Tryd.ntmps28
    go_wp2_with (first | (go_at_call 26; refine HB.out.mono ?_; rintro e w1 ⟨rfl, rfl⟩) | (at_builtin; refine wpl_append rfl (.tmp 8) (.tmp 9) 24 rfl _ _ _ rfl rfl hrun ?_))
    go_ret
    exact ⟨A', c', by rw [hl]; rfl, by rw [hl]; exact HE.out.1, by rw [hl]; exact HE.out.2.1, HE.out.2.2⟩
  · rw [menF_none h]
    have HB := Lib.hid (bytes_no n w hi h)
    have hnil := fun W => eql_nil (P := Tryd.prog) W 24 5 none 0 0 Tryd.underlying24
    go_enter Tryd.func28, Tryd.ntmps28
    go_wp2_with (go_at_call 26; refine HB.out.mono ?_; rintro e w1 ⟨rfl, rfl⟩)
    go_ret
    exact nil_post _
theorem hbF_at {n : Int} (h : 0 ≤ n ∧ n < 281474976710656) (j : Nat) (hj : j < 6) : (hbF n).take (2 + j + 1) = (hbF n).take (2 + j) ++ [(hbF n).getD (2 + j) 0] := by
  rw [List.take_succ_eq_append_getElem (by rw [hbF_len h]; omega), List.getD_eq_getElem?_getD, List.getElem?_eq_getElem (by rw [hbF_len h]; omega)]
  rfl
set_option maxRecDepth 100000 in
set_option maxHeartbeats 8000000 in
theorem rbytes_yes (n : Int) (w : World) (h : 0 ≤ n ∧ n < 281474976710656) : Calls Tryd.prog 27 #[.int .i64 n] w (BysPost w (hbF n)) := by
  obtain ⟨h0, h1⟩ := h
  have HH := Lib.hid (And.intro h0 h1)
  have h0z : ¬ n < 0 := by omega
  have h1z : ¬ 281474976710656 ≤ n := by omega
  have hst : (w.alloc (.cells #[.int .u8 193, .int .u8 94] 5)).ownsRow w.heap.size 5 1 (.slice (some ⟨w.heap.size, 0, none⟩) 2 2) (2 + 0) (vals ((hbF n).take (2 + 0))) ∧ Below w.heap.size w (w.alloc (.cells #[.int .u8 193, .int .u8 94] 5)) := by
    refine ⟨?_, below_new _ _⟩
    rw [hbF_yes ⟨h0, h1⟩]
    exact World.ownsRow_lit w #[.int .u8 193, .int .u8 94] 2 (Nat.le_refl _) (by decide) rfl
  have HS := Lib.hid hst
  clear hst h0 h1
  go_enter Tryd.func27, Tryd.ntmps27
  go_wp2_with fail
  clear h0z h1z
  go_loopg [3, 4] 8 (fun gk s3 s4 wx => ∃ (j : Nat) (vk : Value), s3 = vk ∧ s4 = .int .i64 (5 - (j : Int)) ∧ j ≤ 6 ∧ 7 - j ≤ gk ∧ Hid (wx.ownsRow w.heap.size 5 1 vk (2 + j) (vals ((hbF n).take (2 + j))) ∧ Below w.heap.size w wx))
  case atStart => exact ⟨0, _, rfl, rfl, by omega, by omega, HS⟩
  case round =>
    obtain ⟨j, vk, hvk, rfl, hj, hgk, HI⟩ := hrel
    obtain rfl := hvk.symm
    by_cases hlt : j < 6
    · obtain ⟨gk', rfl⟩ : ∃ g', gk = g' + 1 := ⟨gk - 1, by omega⟩
      have hx := (hbF_fit n).getD (2 + j)
      obtain ⟨v2, w2, hrun, g1, g2⟩ := app_one wr w.heap.size vk (2 + j) _ HI.out.1 ((hbF n).getD (2 + j) 0) hx (by omega) HI.out.2.size
      rw [← vals_append, ← hbF_at HH.out j hlt] at g1
      have HI2 := Lib.hid (And.intro g1 (HI.out.2.trans g2))
      have hyes := hbF_yes HH.out
      clear g1 g2 hx
      obtain rfl | rfl | rfl | rfl | rfl | rfl : j = 0 ∨ j = 1 ∨ j = 2 ∨ j = 3 ∨ j = 4 ∨ j = 5 := by omega
      all_goals
        rw [hyes] at hrun
        simp only [List.getD_cons_succ, List.getD_cons_zero, Nat.reduceAdd] at hrun
        clear hyes
        go_wp2_with (at_builtin; refine wpl_append rfl (.tmp 16) (.tmp 22) 24 rfl _ _ _ rfl rfl hrun ?_)
        clear hrun
        go_wp2
        go_roundg gk'
        case measure => omega
        case rel => first | exact ⟨1, v2, rfl, rfl, by omega, by omega, HI2⟩ | exact ⟨2, v2, rfl, rfl, by omega, by omega, HI2⟩ | exact ⟨3, v2, rfl, rfl, by omega, by omega, HI2⟩ | exact ⟨4, v2, rfl, rfl, by omega, by omega, HI2⟩ | exact ⟨5, v2, rfl, rfl, by omega, by omega, HI2⟩ | exact ⟨6, v2, rfl, rfl, by omega, by omega, HI2⟩
    · obtain rfl : j = 6 := by omega
      have hI := HI.out
      rw [List.take_of_length_le (by rw [hbF_len HH.out]; omega)] at hI
      obtain ⟨Af, cf, rfl, q1, q2, _⟩ := own_shape hI.1
      have HE := Lib.hid (And.intro (Bys.own hI.1 (hbF_fit n)) (And.intro (And.intro q1 q2) hI.2))
      have HL := Lib.hid (hbF_len HH.out)
      clear hI HI q1 q2
      go_wp2
      go_ret
      exact ⟨Af, cf, by rw [HL.out]; rfl, by rw [HL.out]; exact HE.out.1, by rw [HL.out]; exact HE.out.2.1, HE.out.2.2⟩
set_option maxRecDepth 100000 in
theorem rbytes_any (n : Int) (w : World) : Calls Tryd.prog 27 #[.int .i64 n] w (BysPost w (hbF n)) := by
  by_cases h : 0 ≤ n ∧ n < 281474976710656
  · exact rbytes_yes n w h
  · rw [hbF_none h]
    by_cases h0 : n < 0
    · go_enter Tryd.func27, Tryd.ntmps27
      go_wp2
      go_ret
      exact nil_post _
    · have h1 : 281474976710656 ≤ n := by omega
      go_enter Tryd.func27, Tryd.ntmps27
      go_wp2
      go_ret
      exact nil_post _
set_option maxRecDepth 100000 in
theorem rmention_any (n : Int) (w : World) : Calls Tryd.prog 29 #[.int .i64 n] w (BysPost w (menF n)) := by
  have HB := Lib.hid (rbytes_any n w)
  by_cases h : 0 ≤ n ∧ n < 281474976710656
  · have hl := menF_len h
    have h8 := hbF_len h
    have he : menF n = 4 :: 8 :: hbF n := if_pos h
    have hstep := fun (w1 : World) (A1 : Option Addr) (c1 : Nat) (hb : Bys w1 A1 8 (hbF n)) => app_two w1 4 8 A1 8 c1 (hbF n) hb (by omega) (by omega) (by omega)
    rw [← he] at hstep
    have HS := Lib.hid hstep
    have H8 := Lib.hid h8
    clear hstep h8
    go_enter Tryd.func29, Tryd.ntmps29
    go_wp2_with (first | (go_at_call 27; refine HB.out.mono ?_; rintro e w1 ⟨A1, c1, rfl, g1, g2, g3⟩; rw [H8.out] at g1 g2 ⊢; obtain ⟨A', c', w', hrun, q1, q2, q3, q4⟩ := HS.out w1 A1 c1 g1; have HE := Lib.hid (And.intro q2 (And.intro q3 (g3.trans (q4.mono g3.size)))); clear q1 q2 q3 q4 g1 g2 g3) | (at_builtin; refine wpl_append rfl (.tmp 9) (.tmp 10) 24 rfl _ _ _ rfl rfl hrun ?_))
    go_ret
    exact ⟨A', c', by rw [hl]; rfl, by rw [hl]; exact HE.out.1, by rw [hl]; exact HE.out.2.1, HE.out.2.2⟩
  · rw [menF_none h]
    rw [hbF_none h] at HB
    go_enter Tryd.func29, Tryd.ntmps29
    go_wp2_with (go_at_call 27; refine HB.out.mono ?_; rintro e w1 ⟨A1, c1, rfl, g1, g2, g3⟩; have HE := Lib.hid g3; clear g1 g2 g3)
    go_ret
    exact ⟨none, 0, rfl, Bys.nil_ _ _, ⟨Nat.le_refl _, Nat.zero_le _⟩, HE.out⟩
end Go.Proofs.YtfmdmahlljbbmaaDoor.vtc
