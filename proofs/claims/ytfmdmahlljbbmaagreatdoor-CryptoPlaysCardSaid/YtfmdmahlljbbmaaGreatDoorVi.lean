/- A term put into a vault. -/
import Derived.Test.YtfmdmahlljbbmaaGreatDoorVk
import Derived.Deep.RegionLaw
import Derived.WalkSpells
namespace Go.Proofs.YtfmdmahlljbbmaaGreatDoor.vtc
open Go.RowKit Go.Proofs.YtfmdmahlljbbmaaGreatDoor.tlvc Go.Proofs.YtfmdmahlljbbmaaGreatDoor.tmc
set_option linter.unusedVariables false
theorem Off.tab {S : Nat → Prop} {w w' : World} {base : Nat} (h : Off S w w') (hS : ∀ g, S g → base ≤ g) (hs : base ≤ w.heap.size) (ht : txc.Tab base w) : txc.Tab base w' := ht.on (h.below hS hs)
theorem puts_had : ∀ {ks L : List Tm}, (∀ k ∈ ks, k ∈ L) → putsV ks L = L
  | [], L, _ => putsV_nil L
  | k :: ks, L, h => by
    rw [putsV_cons, putV_had (h k (by simp))]
    exact puts_had fun x hx => h x (List.mem_cons_of_mem _ hx)
theorem put_back {o m : Int} {d : List Int} {ks L : List Tm} (h : Tm.mk o m d ks ∈ putsV ks L) : Tm.mk o m d ks ∈ L := by
  rcases (puts_ones ks L).size _ h with h1 | h1
  · exact h1
  · rw [szT_kids] at h1
    omega
theorem put_old {o m : Int} {d : List Int} {ks L : List Tm} (hc : Closed L) (h : Tm.mk o m d ks ∈ putsV ks L) : putV (.mk o m d ks) L = putsV ks L := by
  have h1 := put_back h
  rw [putV_had h1, puts_had (closed_kids hc h1)]
theorem put_fresh {o m : Int} {d : List Int} {ks L : List Tm} (h : Tm.mk o m d ks ∉ putsV ks L) : putV (.mk o m d ks) L = putsV ks L ++ [.mk o m d ks] :=
  putV_new fun e => h (prefix_mem (puts_ones ks L).pre e)
theorem find_last {t : Tm} {L : List Tm} (h : t ∉ L) : findV t (L ++ [t]) = some L.length := by
  induction L with
  | nil =>
    show findV t [t] = some 0
    unfold findV
    rw [if_pos (alike_iff.2 rfl)]
  | cons x L ih =>
    rw [List.cons_append]
    unfold findV
    rw [if_neg fun e => h (by rw [alike_iff.1 e]; simp), ih fun e => h (List.mem_cons_of_mem _ e)]
    rfl
theorem map_nil (mb : Nat) (w : World) : (binOp BinOp.eql 71 (Value.map (some mb)) (Value.map none)).run Tryz.prog w = .ok (.bool false) w := by
  exact run_eql_map_nil w _ _ _ (some mb) Tryz.underlying71
theorem len_cell (vb n c : Nat) (A : Option Addr) (w : World) (h : w.cell? ⟨vb, 0, none⟩ = some (.slice A n c)) : Calls Tryz.prog 26 #[.pointer (some ⟨vb, 0, none⟩)] w fun e w' => e = .returned (.int .i64 n) ∧ w' = w := by
  go_enter Tryz.func26, Tryz.ntmps26
  go_wp2
  go_ret
  exact ⟨rfl, rfl⟩
def PutsAt (t : Tm) : Prop := ∀ (S B : Nat → Prop) (base vb mb : Nat) (ob : Option Nat) (L : List Tm) (v : Value) (w : World), Vlt S w vb mb ob L → TmV B w t v → (∀ g, B g → ¬ Mut vb mb ob g) → txc.Tab base w → base ≤ w.heap.size → (∀ g, Mut vb mb ob g → base ≤ g) → L.length + szT t ≤ 4096 →
    Calls Tryz.prog 46 #[.pointer (some ⟨vb, 0, none⟩), v] w fun e w' => ∃ (i : Nat) (ob' : Option Nat), e = .returned (.int .i64 i) ∧ findV t (putV t L) = some i ∧ Vlt (fun g => S g ∨ w.heap.size ≤ g) w' vb mb ob' (putV t L) ∧ (ob' = ob ∨ ∃ g, ob' = some g ∧ w.heap.size ≤ g) ∧ Off (Mut vb mb ob) w w'
/-- The rounds' relation. -/
structure PR (w : World) (S : Nat → Prop) (vb mb : Nat) (ob0 : Option Nat) (o m : Int) (tb : Obj) (L ks : List Tm) (i : Nat) (ob : Option Nat) (A : Option Addr) (c : Nat) (v6 : Value) (wx : World) : Prop where
  pi : PI w S vb mb ob0 o m tb (putsV (ks.take i) L) (kidsN (putsV (ks.take i) L) (ks.take i)) (ks.take i) ob A c v6 wx
theorem PR.slice {w : World} {S : Nat → Prop} {vb mb : Nat} {ob0 : Option Nat} {o m : Int} {tb : Obj} {L ks : List Tm} {i : Nat} {ob : Option Nat} {A : Option Addr} {c : Nat} {v6 : Value} {wx : World} (h : PR w S vb mb ob0 o m tb L ks i ob A c v6 wx) (hi : i ≤ ks.length) :
    (∃ A6 c6, v6 = .slice A6 i c6) ∧ wx.cell? ⟨w.heap.size + 1, 3, none⟩ = some (.slice A i c) := by
  have hl : (ks.take i).length = i := by rw [List.length_take]; omega
  obtain ⟨A6, c6, e, _⟩ := own_shape h.pi.nums
  rw [kidsN_len, hl] at e
  refine ⟨⟨A6, c6, e⟩, (Lib.cell_of_heap h.pi.own _).trans ?_⟩
  rw [hl]
  rfl
/-- Behind a kid's put. -/
theorem PR.step {w : World} {S : Nat → Prop} {vb mb : Nat} {ob0 : Option Nat} {o m : Int} {tb : Obj} {L ks : List Tm} {i : Nat} {ob : Option Nat} {A : Option Addr} {c : Nat} {v6 : Value} {wx wn w5 : World} (h : PR w S vb mb ob0 o m tb L ks i ob A c v6 wx) (hn : ks.length ≤ 10000) (hb : Below wx.heap.size wx wn) {k : Tm} (hki : ks[i]? = some k) {j : Nat} {ob5 : Option Nat}
    (hj : findV k (putV k (putsV (ks.take i) L)) = some j) (hV : Vlt (fun g => Room w S A v6 g ∨ wn.heap.size ≤ g) w5 vb mb ob5 (putV k (putsV (ks.take i) L))) (hob5 : ob5 = ob ∨ ∃ g, ob5 = some g ∧ wn.heap.size ≤ g) (hoff : Off (Mut vb mb ob) wn w5) :
    j < 4096 ∧ ∃ v7 w6 A9 c9 l9 g9 d0 d1 d2 d3 A' c' w', (Builtin.append_ #[78, 78] 78 #[v6, .slice (some ⟨w5.heap.size, 0, none⟩) 1 1]).run Tryz.prog (w5.alloc (.cells #[.int .i64 j] 3)) = .ok v7 w6 ∧
      (w6.cell? ⟨w.heap.size + 1, 3, none⟩ = some (.slice A i c) ∧ w6.cell? ⟨vb, 0, none⟩ = some (.slice (some ⟨g9, 0, none⟩) l9 c9) ∧ w6.cell? ⟨g9, j * 4, none⟩ = some d0 ∧ w6.cell? ⟨g9, j * 4 + 1, none⟩ = some d1 ∧ w6.cell? ⟨g9, j * 4 + 2, none⟩ = some d2 ∧ w6.cell? ⟨g9, j * 4 + 3, none⟩ = some d3 ∧ j < l9 ∧ l9 ≤ c9 ∧ c9 ≤ 9223372036854775807 ∧ A9 = some (⟨g9, 0, none⟩ : Addr)) ∧ (∃ o5 m5 A5 la5 ca5 K5 lk5 ck5, d0 = .int .i64 o5 ∧ d1 = .int .i64 m5 ∧ d2 = .slice A5 la5 ca5 ∧ d3 = .slice K5 lk5 ck5) ∧
      (Builtin.append_ #[22, 22] 22 #[.slice A i c, .slice (some ⟨w6.heap.size, 0, none⟩) 1 1]).run Tryz.prog (w6.alloc (.cells #[d0, d1, d2, d3] 57)).drew = .ok (.slice A' (i + 1) c') w' ∧ w'.frozen? ⟨w.heap.size + 1, 3, none⟩ = false ∧ (∃ v, w'.cell? ⟨w.heap.size + 1, 3, none⟩ = some v) ∧ PR w S vb mb ob0 o m tb L ks (i + 1) ob5 A' c' v7 (w'.setCell ⟨w.heap.size + 1, 3, none⟩ (.slice A' (i + 1) c')) := by
  have hil := (List.getElem?_eq_some_iff.1 hki).1
  have hl : (ks.take i).length = i := by rw [List.length_take]; omega
  have hp5 := (h.pi.below hb).call hV hob5 hoff
  have hjl := findV_lt hj
  have hlen := hV.len
  obtain ⟨v7, w6, hrun, hp6⟩ := hp5.num j (by unfold I64; omega) (by rw [kidsN_len, hl]; omega)
  obtain ⟨A9, c9, x0, x1, x2, x3, x4, x5⟩ := hp6.vlt.at
  obtain ⟨g9, d0, d1, d2, d3, rfl, e0, e1, e2, e3, hd⟩ := x5 j k (findV_some hj).1
  obtain ⟨A', c', w', hrun2, hf, hc, hp9⟩ := hp6.kid (by rw [hl]; omega) hd
  obtain ⟨o5, m5, A5, la5, ca5, K5, lk5, ck5, q0, q1, q2, q3⟩ := hd.shape
  rw [hl] at hrun2 hp9
  have h3 := (Lib.cell_of_heap hp6.own 3).trans rfl
  rw [hl] at h3
  refine ⟨by omega, v7, w6, some ⟨g9, 0, none⟩, c9, _, g9, d0, d1, d2, d3, A', c', w', hrun, ⟨h3, x0, e0, e1, e2, e3, hjl, x2, x3, rfl⟩, ⟨o5, m5, A5, la5, ca5, K5, lk5, ck5, q0, q1, q2, q3⟩, hrun2, hf, hc, ⟨?_⟩⟩
  have hkt : ks.take (i + 1) = ks.take i ++ [k] := by
    rw [List.take_succ_eq_append_getElem hil, (List.getElem?_eq_some_iff.1 hki).2]
  have hnum : kidsN (putsV (ks.take i) L) (ks.take i) ++ [(j : Int)] = kidsN (putsV (ks.take (i + 1)) L) (ks.take (i + 1)) := by
    rw [puts_snoc ks i k L hki, kidsN_at _ ks hki, hj]
    obtain ⟨r, hr⟩ := (put_one k (putsV (ks.take i) L)).pre
    rw [← hr, kidsN_pre (puts_has (ks.take i) L)]
    rfl
  rw [hnum, ← puts_snoc ks i k L hki, ← hkt] at hp9
  exact hp9
set_option maxRecDepth 100000 in
set_option maxHeartbeats 16000000 in
theorem put_step (o m : Int) (d : List Int) (ks : List Tm) (hk : ∀ k ∈ ks, PutsAt k) (hr : rightF (.mk o m d ks) 0 = true) : PutsAt (.mk o m d ks) := by
  intro S0 B0 base vb mb ob L v w hV00 hv hBM0 ht hbase hmb hroom
  have hV := hV00.bound
  obtain ⟨c0, c1, c2, c3, rfl, hc⟩ := hv
  have hc := TmC.bound _ _ _ _ _ hc
  obtain ⟨S, hSe⟩ : ∃ S, S = fun g => S0 g ∧ g < w.heap.size := ⟨_, rfl⟩
  obtain ⟨B, hBe⟩ : ∃ B, B = fun g => B0 g ∧ g < w.heap.size := ⟨_, rfl⟩
  rw [← hSe] at hV
  rw [← hBe] at hc
  have hSb : ∀ g, S g → g < w.heap.size := fun g hg => by rw [hSe] at hg; exact hg.2
  have hBb : ∀ g, B g → g < w.heap.size := fun g hg => by rw [hBe] at hg; exact hg.2
  have hBM : ∀ g, B g → ¬ Mut vb mb ob g := fun g hg => by rw [hBe] at hg; exact hBM0 g hg.1
  obtain ⟨oo, mm, A, la, ca, K, n, ck, rfl, rfl, rfl, rfl⟩ := hc.shape
  have hc0 := hc
  obtain ⟨hlen, hlc, hck9, _⟩ := kidv hc
  have hn4 := (alone_data (right_mk.1 hr).2.1).2
  rw [hlen] at hn4
  unfold TmC at hc
  obtain ⟨e0, ho, e1, hm, ⟨A', la', ca', e2, hA1, hA2, hA3, hA4⟩, _⟩ := hc
  cases e0; cases e1; cases e2
  have hdla : d.length = la := hA3.1
  have hsz : szT (.mk o m d ks) = szTs ks + 1 := szT_kids o m d ks
  obtain ⟨W0, hW0⟩ : ∃ x, (w.alloc (.cells #[.int .i64 o, .int .i64 m, .slice A la ca, .slice K n ck] 57)).alloc (.cells #[.int .i64 o, .int .i64 m, .slice none 0 0, .slice none 0 0] 57) = x := ⟨_, rfl⟩
  have hz0 : W0.heap.size = w.heap.size + 2 := by rw [← hW0]; simp
  have p0 : W0.heap[w.heap.size]? = some (.cells #[.int .i64 o, .int .i64 m, .slice A la ca, .slice K n ck] 57) := by rw [← hW0, heap_old_ _ _ (by simp)]; exact heap_new_ _ _
  have p1 : W0.heap[w.heap.size + 1]? = some (.cells #[.int .i64 o, .int .i64 m, .slice none 0 0, .slice none 0 0] 57) := by
    rw [← hW0]
    have := heap_new_ (w.alloc (.cells #[.int .i64 o, .int .i64 m, .slice A la ca, .slice K n ck] 57)) (.cells #[.int .i64 o, .int .i64 m, .slice none 0 0, .slice none 0 0] 57)
    rwa [show (w.alloc (.cells #[.int .i64 o, .int .i64 m, .slice A la ca, .slice K n ck] 57)).heap.size = w.heap.size + 1 by simp] at this
  have hb0 : Below w.heap.size w W0 := by rw [← hW0]; exact (below_new _ _).alloc (by simp) _
  have f3 : W0.cell? ⟨w.heap.size, 3, none⟩ = some (.slice K n ck) := (Lib.cell_of_heap p0 _).trans rfl
  have hpr0 : PR w S vb mb ob o m (.cells #[.int .i64 o, .int .i64 m, .slice A la ca, .slice K n ck] 57) L ks 0 ob none 0 (.slice none 0 0) W0 := by
    refine ⟨hSb, ?_, .inl rfl, Off.of_below hb0, p0, p1, ⟨[], World.ownsRow_nil _ _ _ _, rfl⟩, World.ownsRow_nil _ _ _ _, fun g hg => by cases hg⟩
    rw [List.take_zero, putsV_nil]
    exact (hV.below hb0).mono fun g hg => show Room w S none (.slice none 0 0) g from ⟨.inl hg, (fun e => by cases e), (fun e => by cases e)⟩
  have HPR := Lib.hid hpr0
  have HW0 := Lib.hid hW0
  have HKID := Lib.hid hc0
  have HIH := Lib.hid hk
  have HLEN := Lib.hid (And.intro hlen (And.intro hdla (And.intro hsz hroom)))
  have HSS := Lib.hid (And.intro hSe hBe)
  have HT := Lib.hid (And.intro ht (And.intro hbase hmb))
  have HBM := Lib.hid (And.intro hBM hBb)
  have HR := Lib.hid hr
  have HV := Lib.hid hV
  clear hpr0 hc0 hk hlen hdla hsz hroom hSe hBe ht hbase hmb hBM hBb hr hV hb0 p0 p1 hz0 hSb hBM0 hV00 f3 hW0
  go_enter Tryz.func46, Tryz.ntmps46
  go_wp2_with fail
  rw [HW0.out]
  go_loopg [6, 21] (n + 1) (fun gk s6 s21 wx => ∃ (i : Nat) (A6 : Option Addr) (c6 : Nat) (obx : Option Nat) (Ax : Option Addr) (cx : Nat), s6 = .slice A6 i c6 ∧ s21 = .int .i64 i ∧ i ≤ n ∧ n - i < gk ∧ Hid (PR w S vb mb ob o m (.cells #[.int .i64 o, .int .i64 m, .slice A la ca, .slice K n ck] 57) L ks i obx Ax cx (.slice A6 i c6) wx))
  case atStart => exact ⟨0, none, 0, ob, none, 0, rfl, rfl, by omega, by omega, HPR⟩
  case round =>
    obtain ⟨i, A6, c6, obx, Ax, cx, rfl, rfl, hi, hgk, HI⟩ := hrel
    by_cases hlt : i < n
    · have hltz : (i : Int) < (n : Int) := by omega
      obtain ⟨gk', rfl⟩ : ∃ g', gk = g' + 1 := ⟨gk - 1, by omega⟩
      have HN12 := Lib.hid (And.intro (show i + 1 ≤ n from hlt) (show n - (i + 1) < gk' by omega))
      have hst : Stays B w wr := HI.out.pi.off.stays fun g _ hg => HBM.out.1 g hg
      obtain ⟨_, _, _, hkk⟩ := kidv (TmC.stays hst _ _ _ _ _ HKID.out)
      obtain ⟨k, g, off, d0, d1, d2, d3, hki, rfl, e0, e1, e2, e3, hd⟩ := hkk i hlt
      obtain ⟨to, tm, tA, tla, tca, tK, tlk, tck, q0, q1, q2, q3⟩ := hd.shape
      subst q0 q1 q2 q3
      obtain ⟨wn, hwn⟩ : ∃ x, wr.alloc (.cells #[.int .i64 to, .int .i64 tm, .slice tA tla tca, .slice tK tlk tck] 57) = x := ⟨_, rfl⟩
      have hnew : Below wr.heap.size wr wn := by rw [← hwn]; exact below_new _ _
      have hpi := HI.out.pi.below hnew
      have hmem : k ∈ ks := List.mem_of_getElem? hki
      have hil := (List.getElem?_eq_some_iff.1 hki).1
      have hsum : (putsV (ks.take i) L).length + szT k ≤ 4096 := by
        have h1 := (puts_ones (ks.take i) L).len
        have h2 : szTs (ks.take i) + szT k ≤ szTs ks := by
          have e : ks = ks.take i ++ k :: ks.drop (i + 1) := by
            conv => lhs; rw [← List.take_append_drop i ks, List.drop_eq_getElem_cons hil, (List.getElem?_eq_some_iff.1 hki).2]
          conv => rhs; rw [e]
          rw [szTs_app, szTs_two]
          omega
        have h3 := HLEN.out.2.2
        omega
      have C1 := HIH.out k hmem (Room w S Ax (.slice A6 i c6)) B base vb mb obx (putsV (ks.take i) L) (.agg #[.int .i64 to, .int .i64 tm, .slice tA tla tca, .slice tK tlk tck]) wn hpi.vlt ⟨_, _, _, _, rfl, TmC.below hnew _ _ _ _ _ hd⟩
        (fun b hb hm => HBM.out.1 b hb (hpi.old (HBM.out.2 b hb) hm)) (hpi.off.tab HT.out.2.2 HT.out.2.1 HT.out.1) (Nat.le_trans HT.out.2.1 hpi.off.size)
        (fun b hb => by
          rcases Nat.lt_or_ge b w.heap.size with h | h
          · exact HT.out.2.2 b (hpi.old h hb)
          · exact Nat.le_trans HT.out.2.1 h) hsum
      have hn10 : ks.length ≤ 10000 := by rw [HLEN.out.1]; omega
      have hstep := fun (w5 : World) (j : Nat) (ob5 : Option Nat) hj hV5 hob5 hoff5 => HI.out.step (wn := wn) (w5 := w5) (j := j) (ob5 := ob5) hn10 hnew hki hj hV5 hob5 hoff5
      have HC1 := Lib.hid C1
      have HS := Lib.hid hstep
      clear C1 hstep hpi hst hkk hd hki hmem hil hsum hn10 hnew hgk
      obtain ⟨g9, hg9⟩ : ∃ x, x = (0 : Nat) := ⟨_, rfl⟩
      clear hg9 g9
      have HWN := Lib.hid hwn
      clear hwn
      go_wp2_with (first | (at_builtin; refine wpl_append rfl (.tmp 28) (.tmp 30) 78 rfl _ _ _ rfl rfl hrun ?_) | (go_at_call 46; rw [HWN.out]; refine HC1.out.mono ?_; rintro e w5 ⟨j, ob5, rfl, hj, hV5, hob5, hoff5⟩; obtain ⟨hj4, v7, w6, A9, c9, l9, g9, y0, y1, y2, y3, A', c', w', hrun, ⟨x0, x1, x2, x3, x4, x5, hjl, hl9, hc9, rfl⟩, ⟨o5, m5, A5, la5, ca5, K5, lk5, ck5, rfl, rfl, rfl, rfl⟩, hrun2, hf, hc, hpr⟩ := HS.out w5 j ob5 hj hV5 hob5 hoff5; obtain ⟨⟨A7, c7, rfl⟩, _⟩ := hpr.slice (by rw [HLEN.out.1]; exact HN12.out.1); have HPR2 := Lib.hid hpr; clear hpr hj hV5 hob5 hoff5))
      obtain ⟨vo, hvo⟩ := hc
      have x6 : (w6.alloc (.cells #[.int .i64 o5, .int .i64 m5, .slice A5 la5 ca5, .slice K5 lk5 ck5] 57)).cell? ⟨w.heap.size + 1, 3, none⟩ = some (.slice Ax i cx) := ((below_new w6 _).cell (p := ⟨w.heap.size + 1, 3, none⟩) (block_lt_of_cell x0)).trans x0
      have hjlz : (j : Int) < (l9 : Int) := by omega
      clear HC1 HS HWN hrun e0 e1 e2 e3
      go_region_law (first | (refine step_run rfl (.tmp 33) (.tmp 41) 22 rfl _ _ _ (by simp [Act.eval]) (by simp [Act.eval]) hrun2 ?_))
      all_goals
        clear x0 x1 x2 x3 x4 x5 x6 hrun2 hf hvo
        go_wp2
        go_roundg gk'
        case measure => omega
        case rel => exact ⟨i + 1, A7, c7, ob5, A', c', rfl, by go_num, HN12.out.1, HN12.out.2, HPR2⟩
    · have hltz : ¬ (i : Int) < (n : Int) := by omega
      obtain rfl : i = n := by omega
      have hI := HI.out.pi
      have htk : ks.take i = ks := List.take_of_length_le (by rw [HLEN.out.1]; exact Nat.le_refl _)
      rw [htk] at hI
      have hst : Stays B w wr := hI.off.stays fun g _ hg => HBM.out.1 g hg
      have hcw := TmC.stays hst _ _ _ _ _ HKID.out
      unfold TmC at hcw
      obtain ⟨_, _, _, _, ⟨A', la', ca', e2, hA1, hA2, hA3, _⟩, _⟩ := hcw
      cases e2
      obtain ⟨b0, b1, b2, b3⟩ : wr.cell? ⟨w.heap.size, 0, none⟩ = some (.int .i64 o) ∧ wr.cell? ⟨w.heap.size, 1, none⟩ = some (.int .i64 m) ∧ wr.cell? ⟨w.heap.size, 2, none⟩ = some (.slice A la ca) ∧ wr.cell? ⟨w.heap.size, 3, none⟩ = some (.slice K i ck) := ⟨(Lib.cell_of_heap hI.box _).trans rfl, (Lib.cell_of_heap hI.box _).trans rfl, (Lib.cell_of_heap hI.box _).trans rfl, (Lib.cell_of_heap hI.box _).trans rfl⟩
      have hLl := hI.vlt.len
      have hkf : Fit8 (kidsN (putsV ks L) ks) := kidsN_fit (by omega)
      have hnums := hI.nums
      rw [kidsN_len, HLEN.out.1] at hnums
      obtain ⟨_, _, e6, hl6, hm6, _⟩ := own_shape hnums
      cases e6
      have hins := Ins.own hnums hkf
      have ht : txc.Tab wr.heap.size wr := (hI.off.tab HT.out.2.2 HT.out.2.1 HT.out.1).mono (Nat.le_trans HT.out.2.1 hI.off.size)
      have hW := written_any o m ho hm A la ca d (.slice K i ck) A6 i c6 (kidsN (putsV ks L) ks) wr hA3 hA1 hA2 hins hl6 hm6 (by omega) (by have := HLEN.out.2.1; have := (alone_data (right_mk.1 HR.out).2.1).1; omega) ht ⟨K, i, ck, rfl⟩
      have hkin := puts_has ks L
      have hfit : FitT (.mk o m d ks) := hA3.2.1
      have hkl : (keyT (putsV ks L) (.mk o m d ks)).length ≤ 1000000 := by
        have h1 := keyF_len (o := o) (m := m) (ks := kidsN (putsV ks L) ks) (d := d) ho hm hkf
        rw [kidsN_len, HLEN.out.1] at h1
        have h2 := (alone_data (right_mk.1 HR.out).2.1).1
        show (keyF o m (kidsN (putsV ks L) ks) d).length ≤ 1000000
        omega
      have hlook := fun (w1 : World) (hb : Below wr.heap.size wr w1) => (hI.below hb).vlt.look (t := .mk o m d ks) hkin hfit hkl
      have hcells := fun (w1 : World) (hb : Below wr.heap.size wr w1) => (hI.below hb).vlt.at
      have hbox1 := fun (w1 : World) (hb : Below wr.heap.size wr w1) => (Lib.cell_of_heap (hI.below hb).box 2).trans (show _ = some (Value.slice A la ca) from rfl)
      have hkey : keyF o m (kidsN (putsV ks L) ks) d = keyT (putsV ks L) (.mk o m d ks) := rfl
      rw [hkey] at hW
      have hcl := HV.out.closed
      have HW := Lib.hid hW
      have HLK := Lib.hid hlook
      have HCL := Lib.hid hcells
      have HB1 := Lib.hid hbox1
      have HPI := Lib.hid hI
      have HSS2 : Hid (∀ g, S g ∨ w.heap.size ≤ g → S0 g ∨ w.heap.size ≤ g) := Lib.hid fun g hg => hg.imp (fun e => by rw [HSS.out.1] at e; exact e.1) id
      cases hfk : findV (.mk o m d ks) (putsV ks L) with
      | some j =>
        have hmem := List.mem_of_getElem? (findV_some hfk).1
        have hput := put_old hcl hmem
        have HE := Lib.hid (And.intro hfk hput)
        have HLK2 : Hid (∀ w1, Below wr.heap.size wr w1 → (Instr.lookup 71 (.map (some mb)) (.string (strOfNums (keyT (putsV ks L) (.mk o m d ks)))) true).run Tryz.prog w1 = .ok (.tuple #[.int .i64 (j : Nat), .bool true]) w1) := Lib.hid fun w1 hb => by rw [HLK.out w1 hb, hfk]; rfl
        clear hI hst hA1 hA2 hA3 hLl hkf hnums hins ht hW hkin hfit hkl hlook hcells hbox1 hkey hcl hfk hmem hput HI hgk hl6 hm6 htk
        go_wp2_with (go_at_call 62; refine HW.out.mono ?_; rintro e w1 ⟨rfl, hb1⟩; have hlook := HLK2.out w1 hb1; obtain ⟨A9, c9, y0, y1, _⟩ := HCL.out w1 hb1; have HP1 := Lib.hid (HPI.out.below hb1))
        clear hlook y0 y1 b0 b1 b2 b3 hb1
        go_wp2
        go_ret
        refine ⟨j, obx, rfl, by rw [HE.out.2]; exact HE.out.1, ?_, HP1.out.hob, HP1.out.off⟩
        rw [HE.out.2]
        exact HP1.out.vlt.mono fun g hg => HSS2.out g (hg.1.imp id fun e => by omega)
      | none =>
        have hnot := findV_none.1 hfk
        have hput := put_fresh hnot
        have hlast := find_last hnot
        have hmn := map_nil mb
        have hl1 : (putsV ks L).length + 1 ≤ 4096 := by
          have h1 := (puts_ones ks L).len
          have h2 := HLEN.out.2.2
          omega
        have HE := Lib.hid (And.intro hlast (And.intro hput hl1))
        have HLK2 : Hid (∀ w1, Below wr.heap.size wr w1 → (Instr.lookup 71 (.map (some mb)) (.string (strOfNums (keyT (putsV ks L) (.mk o m d ks)))) true).run Tryz.prog w1 = .ok (.tuple #[.int .i64 0, .bool false]) w1) := Lib.hid fun w1 hb => by rw [HLK.out w1 hb, hfk]; rfl
        have hlst := fun (w1 : World) (hb1 : Below wr.heap.size wr w1) (w2 : World) (hb2 : Below w1.heap.size w1 w2) (A2 : Option Addr) (c2 : Nat) (hd : Bys w2 A2 la d) (hlc : la ≤ c2) (hcm : c2 ≤ maxLen) (hfar : ∀ g off sp, A2 = some ⟨g, off, sp⟩ → w1.heap.size ≤ g) => (hI.below hb1).last hb2 hd hlc hcm hfar hnot hkin HR.out ho hm hl1 hkl
        have hcopy := fun (w1 : World) (hb1 : Below wr.heap.size wr w1) => bclone_any A la ca d w1 (hA3.below hb1) hA1 hA2 (by have := HLEN.out.2.1; have := (alone_data (right_mk.1 HR.out).2.1).1; omega)
        have HLS := Lib.hid hlst
        have HCP := Lib.hid hcopy
        clear hI hst hA1 hA2 hA3 hLl hkf hnums hins ht hW hkin hfit hkl hlook hcells hbox1 hkey hcl hfk hnot hlast hput hl1 hlst hcopy HI hgk hl6 hm6 htk
        go_wp2_with (first | (go_at_call 62; refine HW.out.mono ?_; rintro e w1 ⟨rfl, hb1⟩; have hlook := HLK2.out w1 hb1; obtain ⟨A9, c9, y0, y1, _⟩ := HCL.out w1 hb1; have y2 := HB1.out w1 hb1) | (go_at_call 63; refine (HCP.out w1 hb1).mono ?_; rintro e w2 ⟨A2, c2, rfl, hd2, ⟨hlc2, hcm2⟩, hb2, hfar2⟩; have y9 : (w2.setCell ⟨w.heap.size + 1, 2, none⟩ (.slice A2 la c2)).cell? ⟨vb, 1, none⟩ = some (.map (some mb)) := (World.cell?_setCell_other _ _ _ _ (by have hm := (HPI.out.mut (.inl rfl)).2.1; intro e; simp only [Addr.mk.injEq] at e; omega)).trans ((hb2.cell (p := ⟨vb, 1, none⟩) (block_lt_of_cell y1)).trans y1); have hls := HLS.out w1 hb1 w2 hb2 A2 c2 hd2 hlc2 hcm2 hfar2; clear hd2 hlc2 hcm2 hfar2 hb2; obtain ⟨A8, c8, g10, c10, w5, w8, ⟨s0, s1, s2⟩, s3, ⟨s4, s5, s6⟩, ⟨hrun, s7, s8⟩, ⟨s9, u0, u1, u2, u3⟩, ⟨u4, u5, u6⟩, ⟨u7, u8⟩, hup, hV8, hob8, hoff8⟩ := hls; have HEND := Lib.hid (And.intro hV8 (And.intro hob8 hoff8)); clear hV8 hob8 hoff8) | (go_at_call 26; refine (len_cell vb _ _ _ _ s4).mono ?_; rintro e w3 ⟨rfl, rfl⟩))
        clear y9
        obtain ⟨w3, hw3⟩ : ∃ x, w2.setCell ⟨w.heap.size + 1, 2, none⟩ (.slice A2 la c2) = x := ⟨_, rfl⟩
        rw [hw3] at s3 s4 hrun ⊢
        obtain ⟨p0, p1, p2, p3⟩ := s3 w3 (.inl rfl)
        obtain ⟨q0, q1, q2, q3⟩ := s3 _ (.inr (.inl rfl))
        obtain ⟨r0, r1, r2, r3⟩ := s3 w5 (.inr (.inr rfl))
        have v0 := s9 ((putsV ks L).length * 4)
        have v1 := s9 ((putsV ks L).length * 4 + 1)
        have v2 := s9 ((putsV ks L).length * 4 + 2)
        have v3 := s9 ((putsV ks L).length * 4 + 3)
        obtain ⟨l, hl⟩ : ∃ x, (putsV ks L).length = x := ⟨_, rfl⟩
        have HLX := Lib.hid hl
        have hlz : (l : Int) < ((l + 1 : Nat) : Int) := by omega
        have hlz2 : (l : Int) < (l : Int) + 1 := by omega
        have hlb : l < l + 1 := by omega
        rw [hl] at s4 s5 hrun s7 u0 u1 u2 u3 u6 u8 hup v0 v1 v2 v3 ⊢
        have s4' : (w3.alloc (.cells #[.int .i64 0, .int .i64 0, .slice none 0 0, .slice none 0 0] 57)).cell? ⟨vb, 0, none⟩ = some (.slice A8 l c8) := ((below_new w3 _).cell (p := ⟨vb, 0, none⟩) (block_lt_of_cell s4)).trans s4
        have hcomm := set4_comm w5 g10 vb (l * 4) 0 (.int .i64 o) (.int .i64 m) (.slice A2 la c2) (.slice Ax ks.length cx) (.slice (some ⟨g10, 0, none⟩) (l + 1) c10) u4
        unfold set4 at u8 hup hcomm
        have HCOMM := Lib.hid hcomm
        clear hcomm
        have h1 : (HE.out.2.2) = HE.out.2.2 := rfl
        clear h1 hw3 s3 s9 s1 s2 hl hlook y0 y1 y2 b0 b1 b2 b3 HLS HCP HLK2 HLK HCL HB1 HW HPI s0
        go_region_law (first | (refine step_run rfl (.tmp 77) (.tmp 80) 22 rfl _ _ _ rfl rfl hrun ?_))
        all_goals
          clear p0 p1 p2 p3 q0 q1 q2 q3 r0 r1 r2 r3 v0 v1 v2 v3 u0 u1 u2 u3 s4 s4' s5 s6 hrun s7 s8 u5 u6
          try rw [HCOMM.out]
          go_wp2_with (at_mapUpdate; refine wpl_update rfl (.tmp 88) (.tmp 89) (.tmp 90) 71 rfl _ _ _ rfl rfl rfl hup ?_)
          clear hup u7 u8 HCOMM
          go_wp2
          go_ret
          refine ⟨l, some g10, rfl, ?_, ?_, HEND.out.2.1, HEND.out.2.2⟩
          · rw [HE.out.2.1, HE.out.1, HLX.out]
          · rw [HE.out.2.1]
            exact HEND.out.1.mono HSS2.out
theorem puts_all : ∀ (N : Nat) (t : Tm), szT t ≤ N → rightF t 0 = true → PutsAt t
  | 0, .mk _ _ _ ks, h, _ => by unfold szT at h; omega
  | N + 1, .mk o m d ks, h, hr => by
    unfold szT at h
    exact put_step o m d ks (fun k hk => puts_all N k (by have := szTs_mem hk; omega) (right_kids hr hk)) hr
theorem put_any (t : Tm) (hr : rightF t 0 = true) : PutsAt t := puts_all _ t (Nat.le_refl _) hr
end Go.Proofs.YtfmdmahlljbbmaaGreatDoor.vtc
