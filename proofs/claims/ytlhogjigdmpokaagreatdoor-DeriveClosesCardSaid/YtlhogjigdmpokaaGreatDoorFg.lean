/- The program's Can; Closure and Can of no vault; the law's own has. The program's Can. The live question of what can be had. What can be had, within a law. -/
import Derived.Test.YtlhogjigdmpokaaGreatDoorFf
import Derived.Test.YtlhogjigdmpokaaGreatDoorUk
import Derived.Test.YtlhogjigdmpokaaGreatDoorUn
import Derived.Test.YtlhogjigdmpokaaGreatDoorShelfC
import Derived.Shelf.Slices.SearchI
namespace Go.Proofs.YtlhogjigdmpokaaGreatDoor.vtc
open Go.RowKit Go.Proofs.YtlhogjigdmpokaaGreatDoor.tlvc Go.Proofs.YtlhogjigdmpokaaGreatDoor.tmc Go.Proofs.YtlhogjigdmpokaaGreatDoor.rfc
set_option linter.unusedVariables false
set_option maxRecDepth 100000 in
set_option maxHeartbeats 4000000 in
theorem closure_nil (A : Option Addr) (n c : Nat) (w : World) : Calls Tryz.prog 11 #[.pointer none, .slice A n c] w fun e w' => e = .returned (.slice none 0 0) ∧ w' = w := by
  refine (callsIn_wide (n := 9)).1 (callsIn_of_wp_marks Tryz.func11 rfl trivial (wpIn_wide.2 ?_))
  simp only [Tryz.ntmps11, List.size_toArray, List.length_cons, List.length_nil, Nat.reduceAdd, Nat.reduceSub, Array.replicate_succ, Array.replicate_zero, List.push_toArray, List.append_toArray, List.nil_append, List.cons_append]
  go_wp2_with fail
  refine wp_scope_straight ?_
  go_wp2_with fail
  dsimp +zetaDelta only [Exit.noGoto, bodyPostM]
  unfold LeavesInM
  unfold LeavesIn
  refine ⟨_, results_tmp rfl _ _ _, ?_⟩
  exact ⟨rfl, rfl⟩
theorem contains_mem (zs : List Int) (x : Int) : zs.contains x = decide (x ∈ zs) := by
  rw [Bool.eq_iff_iff]
  simp
set_option maxRecDepth 100000 in
set_option maxHeartbeats 4000000 in
theorem bsearch_any (A : Option Addr) (n c : Nat) (zs : List Int) (x : Int) (w : World) (hx : Ins w A n zs) (hr : Rise zs) (hn : n ≤ 100000) : Calls Tryz.prog 35 #[.slice A n c, .int .i64 x] w fun e w' => (∃ i : Nat, e = .returned (.tuple #[.int .i64 (i : Nat), .bool (decide (x ∈ zs))])) ∧ Below w.heap.size w w' := by
  by_cases h0 : n = 0
  · subst h0
    have e0 : zs = [] := List.eq_nil_of_length_eq_zero hx.1
    subst e0
    clear hx hr hn
    have mixed : Tryz.prog.follows Departure.mixedOrders = true := by kernel_rfl
    go_enter Tryz.func35, Tryz.ntmps35
    go_wp2_with fail
    go_loopg [7, 8] 1 (fun gk s7 s8 wx => 0 < gk ∧ s7 = .int .i64 0 ∧ s8 = .int .i64 0 ∧ wx = w)
    case atStart => exact ⟨by omega, rfl, rfl, rfl⟩
    case round =>
      obtain ⟨hg, rfl, rfl, rfl⟩ := hrel
      go_wp2_with fail
      go_ret2
      exact ⟨⟨0, by simp⟩, Below.refl _ _⟩
  · obtain ⟨b, off, rfl, hb, hc⟩ := hx.2.2 (by omega)
    have htk : zs.take n = zs := List.take_of_length_le (by rw [hx.1]; exact Nat.le_refl _)
    refine (Any.slices_BinarySearch_int Tryz.lays25 b off n c zs x w (by rw [hx.1]; exact Nat.le_refl _) (by omega) (fun j hj => hc j (by rw [hx.1] at hj; exact hj)) (by rw [htk]; exact hr.imp fun h => Int.le_of_lt h)).mono ?_
    rintro e w' ⟨rfl, q, rfl⟩
    rw [htk, contains_mem]
    exact ⟨⟨_, rfl⟩, drewN_below w q⟩
set_option maxRecDepth 100000 in
set_option maxHeartbeats 4000000 in
theorem has_any (A : Option Addr) (n c : Nat) (zs : List Int) (x : Int) (w : World) (hx : Ins w A n zs) (hnc : n ≤ c) (hcm : c ≤ maxLen) : Calls Tryz.prog 15 #[.slice A n c, .int .i64 x] w fun e w' => e = .returned (.bool (decide (x ∈ zs))) ∧ Below w.heap.size w w' := by
  have h9 : c ≤ 9223372036854775807 := by unfold maxLen at hcm; omega
  have HX := Lib.hid hx
  have HCM := Lib.hid hcm
  clear hx hcm
  go_enter Tryz.func15, Tryz.ntmps15
  go_wp2_with fail
  go_loopg [5] (n + 1) (fun gk s5 wx => ∃ (i : Nat), s5 = .int .i64 (i : Nat) ∧ i ≤ n ∧ n - i < gk ∧ Hid (wx = w ∧ x ∉ zs.take i))
  case atStart => exact ⟨0, rfl, by omega, by omega, Lib.hid ⟨rfl, by simp⟩⟩
  case round =>
    obtain ⟨i, rfl, hi, hgk, HR⟩ := hrel
    by_cases hlt : i < n
    · have hltz : (i : Int) < (n : Int) := by omega
      obtain ⟨gk', rfl⟩ : ∃ g', gk = g' + 1 := ⟨gk - 1, by omega⟩
      have HN := Lib.hid (And.intro (show i + 1 ≤ n from hlt) (show n - (i + 1) < gk' by omega))
      have hwr := HR.out.1
      obtain ⟨b, off, rfl, hb, hc⟩ := HX.out.2.2 (by omega)
      obtain ⟨y, hy⟩ : ∃ y, zs.getD i 0 = y := ⟨_, rfl⟩
      have x0 : wr.cell? ⟨b, off + i, none⟩ = some (.int .i64 y) := by rw [hwr, ← hy]; exact hc i hlt
      have hil : i < zs.length := by rw [HX.out.1]; exact hlt
      have hyz : zs[i]? = some y := by rw [List.getElem?_eq_getElem hil, ← hy, List.getD_eq_getElem?_getD, List.getElem?_eq_getElem hil]; rfl
      have htk : zs.take (i + 1) = zs.take i ++ [y] := by
        rw [List.take_succ_eq_append_getElem hil, ← hy, List.getD_eq_getElem?_getD, List.getElem?_eq_getElem hil]
        rfl
      have HY := Lib.hid (And.intro hyz htk)
      have HWR := Lib.hid hwr
      clear hb hc hy hil hyz htk hgk hwr hi
      by_cases e : y = x
      · have hm : decide (x ∈ zs) = true := decide_eq_true (by rw [← e]; exact List.mem_of_getElem? HY.out.1)
        have HM := Lib.hid hm
        clear hm
        subst e
        go_wp2_with fail
        go_ret
        exact ⟨by rw [HM.out]; rfl, by rw [HWR.out]; exact Below.refl _ _⟩
      · have hne : (y == x) = false := by rw [beq_eq_false_iff_ne]; exact e
        have HE := Lib.hid e
        clear e
        go_wp2_with fail
        go_roundg gk'
        case measure => omega
        case rel => exact ⟨i + 1, by go_num, HN.out.1, HN.out.2, Lib.hid ⟨HWR.out, by rw [HY.out.2]; simp only [List.mem_append, List.mem_singleton, not_or]; exact ⟨HR.out.2, fun h => HE.out h.symm⟩⟩⟩
    · obtain rfl : n = i := by omega
      have hltz : ¬ (n : Int) < (n : Int) := by omega
      have htk : zs.take n = zs := List.take_of_length_le (by rw [HX.out.1]; exact Nat.le_refl _)
      have hm : decide (x ∈ zs) = false := by rw [← htk]; exact decide_eq_false HR.out.2
      have HM := Lib.hid (And.intro hm HR.out.1)
      clear htk hm hgk hi
      go_wp2_with fail
      go_ret
      exact ⟨by rw [HM.out.1]; rfl, by rw [HM.out.2]; exact Below.refl _ _⟩
end Go.Proofs.YtlhogjigdmpokaaGreatDoor.vtc
namespace Go.Proofs.YtlhogjigdmpokaaGreatDoor.vtc
open Go.RowKit Go.Proofs.YtlhogjigdmpokaaGreatDoor.tlvc Go.Proofs.YtlhogjigdmpokaaGreatDoor.tmc Go.Proofs.YtlhogjigdmpokaaGreatDoor.rfc
set_option linter.unusedVariables false
noncomputable def canF (L : List Tm) (xs bs : List Int) : Bool := decide (∀ y ∈ mentionsF bs (L.length : Int), y ∈ clF L xs)
theorem can_nil (A B : Option Addr) (n c m d : Nat) (w : World) : Calls Tryz.prog 13 #[.pointer none, .slice A n c, .slice B m d] w fun e w' => e = .returned (.bool false) ∧ w' = w := by
  go_enter Tryz.func13, Tryz.ntmps13
  go_wp2
  go_ret
  exact ⟨rfl, rfl⟩
theorem mentions_len (bs : List Int) (N : Nat) (hf : Fit bs) : (mentionsF bs (N : Int)).length ≤ N :=
  rise_len (mentions_rise bs N) fun x hx => by
    obtain ⟨h1, h2⟩ := (mentions_mem _ _ _).1 hx
    exact ⟨((says_iff hf x).1 h2).1.1, h1⟩
set_option maxRecDepth 100000 in
set_option maxHeartbeats 8000000 in
theorem can_any {S : Nat → Prop} {vb mb0 : Nat} {ob : Option Nat} {L : List Tm} (w : World) (hV : Vlt S w vb mb0 ob L) (ht : txc.Tab w.heap.size w) (hsz : ∀ t ∈ L, szT t ≤ 10000) (T : Tbl L) (A : Option Addr) (n c : Nat) (xs : List Int) (hx : Ins w A n xs) (hnc : n ≤ c) (hcm : c ≤ maxLen)
    (B : Option Addr) (m d : Nat) (bs : List Int) (hb : Bys w B m bs) (hmd : m ≤ d) (hdm : d ≤ maxLen) (hm : m ≤ 100000) (hf : Fit bs) :
    Calls Tryz.prog 13 #[.pointer (some ⟨vb, 0, none⟩), .slice A n c, .slice B m d] w fun e w' => e = .returned (.bool (canF L xs bs)) ∧ Below w.heap.size w w' := by
  obtain ⟨Av, cv, y0, _⟩ := hV.cells
  have hlen := T.len
  have hml := mentions_len bs L.length hf
  have HCL := Lib.hid (closure_any w hV ht hsz T A n c xs hx hnc hcm)
  have HM := Lib.hid fun (W : World) (hW : Below w.heap.size w W) => mentions_far B m d bs (L.length : Int) W (hb.below hW) hmd hdm hm
  have HLN := Lib.hid fun (W : World) (hW : Below w.heap.size w W) => len_cell vb L.length cv Av W ((hW.cell (p := ⟨vb, 0, none⟩) (block_lt_of_cell y0)).trans y0)
  have hcl := clF_len L xs
  have hcr := cl_rise L xs
  obtain ⟨mz, hmz⟩ : ∃ z, mentionsF bs (L.length : Int) = z := ⟨_, rfl⟩
  obtain ⟨cz, hcz⟩ : ∃ z, clF L xs = z := ⟨_, rfl⟩
  obtain ⟨nm, hnm⟩ : ∃ l, mz.length = l := ⟨_, rfl⟩
  rw [hmz] at hml HM
  rw [hcz] at HCL hcl hcr
  have HZ := Lib.hid (And.intro hmz (And.intro hcz (And.intro hml (And.intro hcl (And.intro hcr (And.intro hlen hnm))))))
  clear hV ht hsz T hx hcm hb hmd hdm hm hf y0 hlen hml hcl hcr hmz hcz
  go_enter Tryz.func13, Tryz.ntmps13
  go_wp2_with fail
  refine HCL.out.mono ?_
  rintro e w1 ⟨A1, c1, rfl, i1, ⟨l1, m1⟩, b1, _⟩
  have HL1 := Lib.hid (HLN.out w1 b1)
  have H1 := Lib.hid (And.intro i1 (And.intro l1 (And.intro m1 b1)))
  clear i1 l1 m1 b1 HLN HCL
  go_wp2_with fail
  refine HL1.out.mono ?_
  rintro e w2 ⟨rfl, rfl⟩
  have HM1 := Lib.hid (HM.out w2 H1.out.2.2.2)
  clear HL1 HM
  go_wp2_with fail
  refine HM1.out.mono ?_
  rintro e w3 ⟨A3, c3, rfl, i3, ⟨l3, m3⟩, b3, _⟩
  rw [hnm] at i3 l3
  have h39 : c3 ≤ 9223372036854775807 := by unfold maxLen at m3; omega
  have H3 := Lib.hid (And.intro i3 (blw H1.out.2.2.2 b3))
  have H1b := Lib.hid (H1.out.1.below b3)
  rw [hnm]
  clear i3 m3 b3 HM1 hnm
  go_wp2_with fail
  go_loopg [22] (nm + 1) (fun gk s22 wx => ∃ (i : Nat), s22 = .int .i64 (i : Nat) ∧ i ≤ nm ∧ nm - i < gk ∧ Hid (Below w3.heap.size w3 wx ∧ ∀ y ∈ mz.take i, y ∈ cz))
  case atStart => exact ⟨0, rfl, by omega, by omega, Lib.hid ⟨Below.refl _ _, by simp⟩⟩
  case round =>
    obtain ⟨i, rfl, hi, hgk, HR⟩ := hrel
    by_cases hlt : i < nm
    · have hltz : (i : Int) < (nm : Int) := by omega
      obtain ⟨gk', rfl⟩ : ∃ g', gk = g' + 1 := ⟨gk - 1, by omega⟩
      have HN := Lib.hid (And.intro (show i + 1 ≤ nm from hlt) (show nm - (i + 1) < gk' by omega))
      obtain ⟨b, off, rfl, hb, hc⟩ := (H3.out.1.below HR.out.1).2.2 (by omega)
      obtain ⟨y, hy⟩ : ∃ y, mz.getD i 0 = y := ⟨_, rfl⟩
      have x0 := hc i hlt
      rw [hy] at x0
      have hil : i < mz.length := by rw [HZ.out.2.2.2.2.2.2]; exact hlt
      have hyz : mz[i]? = some y := by rw [List.getElem?_eq_getElem hil, ← hy, List.getD_eq_getElem?_getD, List.getElem?_eq_getElem hil]; rfl
      have htk : mz.take (i + 1) = mz.take i ++ [y] := by
        rw [List.take_succ_eq_append_getElem hil, ← hy, List.getD_eq_getElem?_getD, List.getElem?_eq_getElem hil]
        rfl
      have HY := Lib.hid (And.intro hyz htk)
      have HBS := Lib.hid (bsearch_any A1 cz.length c1 cz y wr (H1b.out.below HR.out.1) HZ.out.2.2.2.2.1 (by have := HZ.out.2.2.2.1; have := HZ.out.2.2.2.2.2.1; omega))
      clear hb hc hy hil hyz htk hgk hi
      go_wp2_with fail
      refine HBS.out.mono ?_
      rintro e w4 ⟨⟨j, rfl⟩, hb4⟩
      obtain ⟨bq, hbq⟩ : ∃ x, decide (y ∈ cz) = x := ⟨_, rfl⟩
      rw [hbq]
      have HQ := Lib.hid (And.intro hbq hb4)
      clear hbq hb4 HBS x0
      cases bq
      · have hm : canF L xs bs = false := by
          unfold canF
          rw [HZ.out.1, HZ.out.2.1]
          exact decide_eq_false fun h => of_decide_eq_false HQ.out.1 (h y (List.mem_of_getElem? HY.out.1))
        have HMF := Lib.hid hm
        clear hm
        go_wp2_with fail
        go_ret
        exact ⟨by rw [HMF.out]; rfl, (H3.out.2.trans (HR.out.1.mono H3.out.2.size)).trans (HQ.out.2.mono (Nat.le_trans H3.out.2.size HR.out.1.size))⟩
      · go_wp2_with fail
        go_roundg gk'
        case measure => omega
        case rel => exact ⟨i + 1, by go_num, HN.out.1, HN.out.2, Lib.hid ⟨blw HR.out.1 HQ.out.2, fun z hz => by
          rw [HY.out.2] at hz
          rcases List.mem_append.1 hz with h | h
          · exact HR.out.2 z h
          · rw [List.mem_singleton.1 h]; exact of_decide_eq_true HQ.out.1⟩⟩
    · obtain rfl : nm = i := by omega
      have hltz : ¬ (nm : Int) < (nm : Int) := by omega
      have hm : canF L xs bs = true := by
        unfold canF
        rw [HZ.out.1, HZ.out.2.1]
        refine decide_eq_true fun y hy => HR.out.2 y ?_
        rw [List.take_of_length_le (by rw [HZ.out.2.2.2.2.2.2]; exact Nat.le_refl _)]
        exact hy
      have HMF := Lib.hid hm
      clear hm hgk hi
      go_wp2_with fail
      go_ret
      exact ⟨by rw [HMF.out]; rfl, H3.out.2.trans (HR.out.1.mono H3.out.2.size)⟩
end Go.Proofs.YtlhogjigdmpokaaGreatDoor.vtc
namespace Go.Proofs.YtlhogjigdmpokaaGreatDoor.vtc
open Go.RowKit Go.Proofs.YtlhogjigdmpokaaGreatDoor.tlvc Go.Proofs.YtlhogjigdmpokaaGreatDoor.tmc Go.Proofs.YtlhogjigdmpokaaGreatDoor.rfc
set_option linter.unusedVariables false
theorem Vlt.tbl {S : Nat → Prop} {w : World} {vb mb : Nat} {ob : Option Nat} {L : List Tm} (h : Vlt S w vb mb ob L) : Tbl L := ⟨h.once, h.closed, h.right, h.fit, h.len⟩
theorem says_none (m : Int) : ¬ Says [] m := fun ⟨i, hi⟩ => by
  unfold atF at hi
  rw [if_neg (by simp)] at hi
  cases hi
theorem tp_get : [ta, tp][0]? = some ta ∧ [ta, tp][1]? = some tp := ⟨rfl, rfl⟩
theorem ta_find : findV ta [ta, tp] = some 0 := by
  have h1 : Once [ta, tp] := (by have := (good_intern Good.start tp).1.once; rw [tp_intern] at this; exact this)
  exact (findV_once h1).2 rfl
theorem tp_cl0 : clF [ta, tp] [0] = [0, 1] := by
  refine (cl_list (by unfold Rise; simp) fun m => ?_).symm
  have c0 : Cl [ta, tp] (KofF [0]) 0 := cl_closed.known 0 (by decide) (by unfold KofF; simp)
  have c1 : Cl [ta, tp] (KofF [0]) 1 := cl_closed.made 1 ⟨2, 0, [], [ta], rfl, .inl ⟨.inl rfl, ⟨ta, [], rfl, 0, ta_find, c0⟩, fun m hm => by
    obtain ⟨_, h⟩ := (mentions_mem _ _ _).1 hm
    exact absurd h (says_none m)⟩⟩
  constructor
  · intro h
    rcases List.mem_cons.1 h with rfl | h
    · exact ⟨0, rfl, c0⟩
    · rw [List.mem_singleton.1 h]; exact ⟨1, rfl, c1⟩
  · rintro ⟨n, rfl, h⟩
    have h2 : n < 2 := h.1
    rcases (show n = 0 ∨ n = 1 by omega) with rfl | rfl <;> simp
theorem tp_clN : clF [ta, tp] [] = [] := by
  refine (cl_list (l := []) (by unfold Rise; simp) fun m => ?_).symm
  constructor
  · intro h; cases h
  · rintro ⟨n, rfl, h⟩
    refine (cl_sub (S := fun _ => False) ⟨fun n _ hk => by unfold KofF at hk; simp at hk, fun n hm => ?_, fun n ho => by obtain ⟨_, _, _, _, _, h, _⟩ := ho; exact h⟩ n h).elim
    obtain ⟨o, mm, d, ks, e, hh⟩ := hm
    have h2 := (List.getElem?_eq_some_iff.1 e).1
    have h2 : n < 2 := h2
    rcases (show n = 0 ∨ n = 1 by omega) with rfl | rfl
    · have e : ta = .mk o mm d ks := Option.some.inj e
      unfold ta at e
      cases e
      rcases hh with ⟨h1, _⟩ | ⟨h1, _⟩ | ⟨h1, _⟩ <;> omega
    · have e : tp = .mk o mm d ks := Option.some.inj e
      unfold tp at e
      cases e
      rcases hh with ⟨_, ⟨k, r, _, i, _, hi⟩, _⟩ | ⟨h1, _⟩ | ⟨h1, _⟩
      · exact hi
      · omega
      · omega
theorem ins_pair {w : World} {A : Option Addr} {x y : Int} (h : Ins w A 2 [x, y]) : ∃ b off, A = some ⟨b, off, none⟩ ∧ w.cell? ⟨b, off, none⟩ = some (.int .i64 x) ∧ w.cell? ⟨b, off + 1, none⟩ = some (.int .i64 y) := by
  obtain ⟨b, off, e, _, hc⟩ := h.2.2 (by omega)
  exact ⟨b, off, e, hc 0 (by omega), hc 1 (by omega)⟩
set_option maxRecDepth 100000 in
set_option maxHeartbeats 8000000 in
theorem head8_any (w : World) (ht : txc.Tab w.heap.size w) : Calls Tryz.prog 8 #[] w fun e w' => e = .returned (.bool true) ∧ Below w.heap.size w w' := by
  have hin := fun (w1 : World) (hV : Vlt (fun g => w.heap.size ≤ g) w1 (w.heap.size + 1) w.heap.size none []) (hb : Below w.heap.size w w1) => by
    have hal : Below w1.heap.size w1 (w1.alloc (.cells #[.int .i64 1, .int .i64 1, .slice none 0 0, .slice none 0 0] 43)) := below_new _ _
    have hq := heap_new_ w1 (.cells #[.int .i64 1, .int .i64 1, .slice none 0 0, .slice none 0 0] 43)
    have hql := (Array.getElem?_eq_some_iff.1 hq).1
    have hs := hb.size
    have ht1 : TmV (fun g => w1.heap.size ≤ g) (w1.alloc (.cells #[.int .i64 1, .int .i64 1, .slice none 0 0, .slice none 0 0] 43)) tp (.agg #[.int .i64 2, .int .i64 0, .slice none 0 0, .slice (some ⟨w1.heap.size, 0, none⟩) 1 1]) := by
      refine ⟨_, _, _, _, rfl, ?_⟩
      unfold tp TmC
      refine ⟨rfl, by unfold I64; omega, rfl, by unfold I64; omega, ⟨none, 0, 0, rfl, Nat.le_refl _, Nat.zero_le _, Bys.nil_ _ _, fun h => absurd h (by omega)⟩, some ⟨w1.heap.size, 0, none⟩, 1, rfl, Nat.le_refl _, by decide, fun _ => ⟨w1.heap.size, 0, rfl, hql, Nat.le_refl _, ?_⟩⟩
      unfold KidsC
      exact ⟨⟨_, _, _, _, (Lib.cell_of_heap hq _).trans rfl, (Lib.cell_of_heap hq _).trans rfl, (Lib.cell_of_heap hq _).trans rfl, (Lib.cell_of_heap hq _).trans rfl, tm_atom _ _⟩, by unfold KidsC; trivial⟩
    have h := intern_any _ _ w.heap.size _ _ none [] tp _ _ (hV.below hal) ht1 (fun g hg hm => by have := (hV.lt hm); omega) (ht.on (hb.trans (hal.mono hs))) (Nat.le_trans hs hal.size) (fun g hg => hV.all g hg) (by rw [tp_size]; omega)
    rw [tp_intern] at h
    exact And.intro h (hb.trans (hal.mono hs))
  have HIN := Lib.hid hin
  have HN := Lib.hid (new_any w)
  have HT := Lib.hid ht
  clear hin ht
  go_enter Tryz.func8, Tryz.ntmps8
  go_wp2_with fail
  refine HN.out.mono ?_
  rintro e w1 ⟨rfl, hV1, hb1, hs1⟩
  obtain ⟨hint, hbn⟩ := HIN.out w1 hV1 hb1
  have HINT := Lib.hid hint
  have HBN := Lib.hid hbn
  clear hint hbn hV1 hb1 hs1 HIN HN
  go_wp2_with fail
  refine HINT.out.mono ?_
  rintro e w2 ⟨ob2, rfl, hV2, _, hoff2⟩
  have hb2 := HBN.out.trans (hoff2.below (B := w.heap.size) (fun g hg => mut_base hg) HBN.out.size)
  have hV2 : Vlt (fun _ => True) w2 (w.heap.size + 1) w.heap.size ob2 [ta, tp] := hV2.mono fun _ _ => trivial
  have T := hV2.tbl
  have hsz : ∀ t ∈ [ta, tp], szT t ≤ 10000 := fun t h => by
    rcases List.mem_cons.1 h with rfl | h
    · unfold ta; rw [szT_kids]; decide
    · rw [List.mem_singleton.1 h, tp_size]; omega
  have hb3 := below_new w2 (.cells #[.int .i64 0] 3)
  have hq3 := heap_new_ w2 (.cells #[.int .i64 0] 3)
  have hCl : ∀ W, Below w2.heap.size w2 W → ∀ A n c xs, Ins W A n xs → n ≤ c → c ≤ maxLen → Calls Tryz.prog 11 #[.pointer (some ⟨w.heap.size + 1, 0, none⟩), .slice A n c] W (InsPostF W (clF [ta, tp] xs)) := fun W hW A n c xs h1 h2 h3 =>
    closure_any W (hV2.below hW) ((HT.out.on (hb2.trans (hW.mono hb2.size))).mono (Nat.le_trans hb2.size hW.size)) hsz T A n c xs h1 h2 h3
  have hi3 : Ins (w2.alloc (.cells #[.int .i64 0] 3)) (some ⟨w2.heap.size, 0, none⟩) 1 [0] := (InsG.one (K := fun _ => .other) (x := 0) hq3 (by unfold I64; omega) rfl).ins
  have hc3 := hCl _ hb3 _ 1 1 [0] hi3 (Nat.le_refl _) (by unfold maxLen; decide)
  rw [tp_cl0] at hc3
  have HC3 := Lib.hid hc3
  have HCL := Lib.hid (And.intro hCl (And.intro hb3 hb2))
  clear hV2 hoff2 hb2 T hsz hb3 hq3 hCl hi3 hc3 HINT HBN
  go_wp2_with fail
  refine HC3.out.mono ?_
  rintro e w4 ⟨A4, c4, rfl, i4, ⟨l4, m4⟩, b4, _⟩
  obtain ⟨b, off, rfl, x0, x1⟩ := ins_pair i4
  have h2c : 2 ≤ c4 := l4
  have h9 : c4 ≤ 9223372036854775807 := by unfold maxLen at m4; omega
  have hc5 := HCL.out.1 w4 (blw HCL.out.2.1 b4) none 0 0 [] (Ins.nil_ _ _) (Nat.le_refl _) (by decide)
  rw [tp_clN] at hc5
  have HC5 := Lib.hid hc5
  have HB4 := Lib.hid (blw HCL.out.2.1 b4)
  rw [show ([0, 1] : List Int).length = 2 from rfl]
  clear i4 l4 m4 b4 hc5 HC3
  go_wp2_with fail
  refine HC5.out.mono ?_
  rintro e w5 ⟨A5, c5, rfl, _, ⟨_, m5⟩, b5, _⟩
  have h59 : c5 ≤ 9223372036854775807 := by unfold maxLen at m5; omega
  have HB5 := Lib.hid (HCL.out.2.2.trans ((blw HB4.out b5).mono HCL.out.2.2.size))
  rw [show ([] : List Int).length = 0 from rfl]
  clear m5 b5 HC5 x0 x1
  go_wp2_with fail
  refine (can_nil none none 0 0 0 0 w5).mono ?_
  rintro e w6 ⟨rfl, rfl⟩
  go_wp2_with fail
  go_ret
  exact ⟨rfl, HB5.out⟩
end Go.Proofs.YtlhogjigdmpokaaGreatDoor.vtc
namespace Go.Proofs.YtlhogjigdmpokaaGreatDoor.vtc
open Go.RowKit Go.Proofs.YtlhogjigdmpokaaGreatDoor.tlvc Go.Proofs.YtlhogjigdmpokaaGreatDoor.tmc Go.Proofs.YtlhogjigdmpokaaGreatDoor.rfc
set_option linter.unusedVariables false
theorem mentions_short {b : List Int} (hb : b.length < 10) (n : Int) : mentionsF b n = [] := by
  refine (mentions_is (l := []) (by unfold Rise; simp) fun m => ⟨fun h => by (cases h), fun h => ?_⟩).symm
  obtain ⟨_, i, hi⟩ := h
  unfold atF at hi
  rw [if_neg (by omega)] at hi
  cases hi
theorem menF_bytes {n : Int} (h : 0 ≤ n ∧ n < 281474976710656) : Fit (menF n) := fun x hx => by
  have he : menF n = 4 :: 8 :: hbF n := if_pos h
  rw [he, hbF_yes h] at hx
  simp only [List.mem_cons, List.not_mem_nil, or_false] at hx
  rcases hx with rfl | rfl | rfl | rfl | rfl | rfl | rfl | rfl | rfl | rfl <;> omega
theorem cons2 {a b a' b' : Int} {u v : List Int} (h : a :: b :: u = a' :: b' :: v) : u = v := (List.cons.inj (List.cons.inj h).2).2
theorem says_men {k : Int} (hn : 0 ≤ k ∧ k < 281474976710656) (m : Int) : Says (menF k) m ↔ m = k := by
  rw [says_iff (menF_bytes hn)]
  constructor
  · rintro ⟨hm, p, q, e⟩
    have hl := congrArg List.length e
    rw [List.length_append, List.length_append, menF_len hn, menF_len hm] at hl
    have hp : p = [] := List.eq_nil_of_length_eq_zero (by omega)
    have hq : q = [] := List.eq_nil_of_length_eq_zero (by omega)
    subst hp
    subst hq
    rw [List.nil_append, List.append_nil] at e
    have e1 : menF k = 4 :: 8 :: hbF k := if_pos hn
    have e3 : menF m = 4 :: 8 :: hbF m := if_pos hm
    rw [e1, e3] at e
    exact (hb_inj hn hm (cons2 e)).symm
  · rintro rfl
    exact ⟨hn, [], [], by rw [List.nil_append, List.append_nil]⟩
theorem mentions_men1 {k N : Int} (hn : 0 ≤ k ∧ k < 281474976710656) (h : k < N) : mentionsF (menF k) N = [k] := by
  refine (mentions_is (l := [k]) (by unfold Rise; simp) fun m => ?_).symm
  rw [List.mem_singleton, says_men hn]
  exact ⟨fun e => ⟨by rw [e]; exact h, e⟩, fun h => h.2⟩
theorem mentions_men {n N : Nat} (h : n < N) (hN : N ≤ 4096) : mentionsF (menF (n : Int)) (N : Int) = [(n : Int)] := mentions_men1 (by omega) (by omega)
theorem can_short {L : List Tm} {xs bs : List Int} (hb : bs.length < 10) : canF L xs bs = true := by
  unfold canF
  rw [mentions_short hb]
  simp
theorem can_men {L : List Tm} (xs : List Int) {n : Nat} (h : n < L.length) (hL : L.length ≤ 4096) : canF L xs (menF (n : Int)) = decide ((n : Int) ∈ clF L xs) := by
  unfold canF
  rw [mentions_men h hL]
  simp
section
variable {w0 : World} {vb mb : Nat} {ob : Option Nat} {L : List Tm} {wx : World}
theorem Vat.closure (h : Vat w0 vb mb ob L wx) (ht : txc.Tab w0.heap.size w0) (A : Option Addr) (n c : Nat) (xs : List Int) (hx : Ins wx A n xs) (hnc : n ≤ c) (hcm : c ≤ maxLen) :
    Calls Tryz.prog 11 #[.pointer (some ⟨vb, 0, none⟩), .slice A n c] wx (InsPostF wx (clF L xs)) :=
  closure_any wx h.vlt ((ht.on h.bel).mono h.bel.size) (fun t ht => Nat.le_trans (h.sz t ht) (by decide)) h.vlt.tbl A n c xs hx hnc hcm
theorem Vat.can (h : Vat w0 vb mb ob L wx) (ht : txc.Tab w0.heap.size w0) (A : Option Addr) (n c : Nat) (xs : List Int) (hx : Ins wx A n xs) (hnc : n ≤ c) (hcm : c ≤ maxLen) (B : Option Addr) (m d : Nat) (bs : List Int) (hb : Bys wx B m bs) (hmd : m ≤ d) (hdm : d ≤ maxLen) (hm : m ≤ 100000) (hf : Fit bs) :
    Calls Tryz.prog 13 #[.pointer (some ⟨vb, 0, none⟩), .slice A n c, .slice B m d] wx fun e w' => e = .returned (.bool (canF L xs bs)) ∧ Below wx.heap.size wx w' :=
  can_any wx h.vlt ((ht.on h.bel).mono h.bel.size) (fun t ht => Nat.le_trans (h.sz t ht) (by decide)) h.vlt.tbl A n c xs hx hnc hcm B m d bs hb hmd hdm hm hf
theorem Vat.len (h : Vat w0 vb mb ob L wx) : Calls Tryz.prog 16 #[.pointer (some ⟨vb, 0, none⟩)] wx fun e w' => e = .returned (.int .i64 L.length) ∧ w' = wx := by
  obtain ⟨A, c, x⟩ := h.vlt.box
  exact len_cell vb L.length c A wx x
/-- The term of a handle, or none. -/
theorem Vat.term (h : Vat w0 vb mb ob L wx) (n : Int) :
    Calls Tryz.prog 18 #[.pointer (some ⟨vb, 0, none⟩), .int .i64 n] wx fun e w' => ∃ (t : Tm) (o m : Int) (A : Option Addr) (la ca : Nat) (K : Option Addr) (lk ck : Nat), e = .returned (.tuple #[.agg #[.int .i64 o, .int .i64 m, .slice A la ca, .slice K lk ck], .bool (decide (0 ≤ n ∧ n < (L.length : Int)))]) ∧ TmC (fun g => wx.heap.size ≤ g) w' t (.int .i64 o) (.int .i64 m) (.slice A la ca) (.slice K lk ck) ∧ (0 ≤ n ∧ n < (L.length : Int) → L[n.toNat]? = some t) ∧ Below wx.heap.size wx w' := by
  by_cases hn : 0 ≤ n ∧ n < (L.length : Int)
  · obtain ⟨k, rfl⟩ : ∃ k : Nat, n = (k : Int) := ⟨n.toNat, by omega⟩
    obtain ⟨t, htk⟩ : ∃ t, L[k]? = some t := ⟨_, List.getElem?_eq_getElem (by omega)⟩
    refine (term_yes _ vb mb ob L k t wx h.vlt htk (Nat.le_trans (h.sz t (List.mem_of_getElem? htk)) (by decide))).mono ?_
    rintro e w' ⟨v, rfl, ⟨c0, c1, c2, c3, rfl, hc⟩, hb⟩
    obtain ⟨o, m, A, la, ca, K, lk, ck, rfl, rfl, rfl, rfl⟩ := hc.shape
    exact ⟨t, o, m, A, la, ca, K, lk, ck, by rw [decide_eq_true hn], hc, fun _ => by rw [Int.toNat_natCast]; exact htk, hb⟩
  · refine (term_no _ vb mb ob L n wx h.vlt (by omega)).mono ?_
    rintro e w' ⟨v, rfl, ⟨c0, c1, c2, c3, rfl, hc⟩, hb⟩
    obtain ⟨o, m, A, la, ca, K, lk, ck, rfl, rfl, rfl, rfl⟩ := hc.shape
    exact ⟨_, o, m, A, la, ca, K, lk, ck, by rw [decide_eq_false hn], hc, fun h => absurd h hn, hb⟩
end
end Go.Proofs.YtlhogjigdmpokaaGreatDoor.vtc
