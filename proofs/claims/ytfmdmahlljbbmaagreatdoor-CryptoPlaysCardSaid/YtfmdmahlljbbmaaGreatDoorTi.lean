/- The document's put: a term into others that are in order. The document's Same and Pow. -/
import Derived.Test.YtfmdmahlljbbmaaGreatDoorTg
import Derived.Deep.LoopGhost
namespace Go.Proofs.YtfmdmahlljbbmaaGreatDoor.tmc
open Go.RowKit Go.Proofs.YtfmdmahlljbbmaaGreatDoor.tlvc
set_option linter.unusedVariables false
theorem run_app_nil4 {P : Program} (w : World) (base : Nat) (t ty e : TypeId) (i : TypeInfo) (ht : P.underlying t = some (.slice e)) (hi : P.info? e = some i)
    (v : Value) (n : Nat) (xs : List Value) (hown : w.ownsRow base e 4 v n xs) (c : Nat) : (Builtin.append_ #[t, t] ty #[v, .slice none 0 c]).run P w = .ok v w := by
  rcases hown.2 with ⟨rfl, rfl⟩ | ⟨g, cap, cur, rfl, _, _, hnc, _⟩
  · simp [Builtin.append_, run_underlying ht, sizeOf, typeInfo, hi, Builtin.lenOf, Builtin.firstCells]
  · simp [Builtin.append_, run_underlying ht, sizeOf, typeInfo, hi, Builtin.lenOf, Builtin.firstCells, hnc, storeCells]
/-- append of terms' cells, from whatever source, to a row of the call's own. -/
theorem app_src (W : World) (base : Nat) (v : Value) (n : Nat) (cs : List Value) (hown : W.ownsRow base 57 4 v n cs) (S : Option Addr) (m c : Nat) (news : List Value) (hm : news.length = m * 4) (h1 : ∀ u ∈ news, u.oneCell' = true)
    (hS : 0 < m → ∃ g off, S = some ⟨g, off, none⟩ ∧ ∀ j u, news[j]? = some u → W.cell? ⟨g, off + j, none⟩ = some u) (hn : n + m ≤ 1000000) (hbase : base ≤ W.heap.size) :
    ∃ A' c' w', (Builtin.append_ #[22, 22] 22 #[v, .slice S m c]).run Tryz.prog W = .ok (.slice A' (n + m) c') w' ∧ w'.ownsRow base 57 4 (.slice A' (n + m) c') (n + m) (cs ++ news) ∧ Below base W w' := by
  rcases S with _ | a
  · have h0 : m = 0 := by
      rcases Nat.eq_zero_or_pos m with h0 | h0
      · exact h0
      · obtain ⟨_, _, e, _⟩ := hS h0; cases e
    subst h0
    have hc : news = [] := List.eq_nil_of_length_eq_zero (by omega)
    subst hc
    obtain ⟨i0, hi, hz0, hz1, hz2⟩ := info_parts Tryz.infoTerm
    obtain ⟨A', c', rfl, _⟩ := own4_shape hown
    exact ⟨A', c', W, run_app_nil4 W base 22 22 57 i0 Tryz.underlying22 hi _ n cs hown c, by rw [List.append_nil, Nat.add_zero]; exact hown, Below.refl _ _⟩
  · obtain ⟨v', w', hr, ho, hg, _⟩ := app_terms W base v n cs hown a m c news hm h1 (fun j u hu => by
      have hj := (List.getElem?_eq_some_iff.1 hu).1
      obtain ⟨g, off, e, hc⟩ := hS (by omega)
      cases e
      rw [Addr.add_lit]
      exact hc j u hu) hn hbase
    obtain ⟨A', c', rfl, _⟩ := own4_shape ho
    exact ⟨A', c', w', hr, ho, (Below.refl _ _).grown hg hbase fun j hj => (hown.lt j hj).1⟩
def sliceAddr (A : Option Addr) (ca p : Nat) : Option Addr := match A with | none => none | some a => if ca = p then some a else some (a.add (p * 4))
theorem slice_at {ca p : Nat} (h : p < ca) (g off : Nat) : sliceAddr (some ⟨g, off, none⟩) ca p = some ⟨g, off + p * 4, none⟩ := by
  unfold sliceAddr
  simp only
  rw [if_neg (by omega), Addr.add_lit]
def PutPost (S : Nat → Prop) (w : World) (ps : List Tm) (e : Ending) (w' : World) : Prop := ∃ A c cs', e = .returned (.slice A ps.length c) ∧ w'.ownsRow w.heap.size 57 4 (.slice A ps.length c) ps.length cs' ∧ Quads S w' ps cs' ∧ Below w.heap.size w w'
theorem Quads.take_ {S : Nat → Prop} {w : World} : ∀ {ks : List Tm} {cs : List Value} (p : Nat), Quads S w ks cs → Quads S w (ks.take p) (cs.take (p * 4)) ∧ Quads S w (ks.drop p) (cs.drop (p * 4))
  | [], cs, p, h => by
    have h : cs = [] := h
    subst h
    simp [Quads]
  | k :: ks, cs, 0, h => by simpa [Quads] using h
  | k :: ks, _, p + 1, ⟨c0, c1, c2, c3, r, e, hk, hr⟩ => by
    obtain ⟨h1, h2⟩ := Quads.take_ p hr
    subst e
    rw [show (p + 1) * 4 = p * 4 + 1 + 1 + 1 + 1 by omega]
    exact ⟨⟨c0, c1, c2, c3, r.take (p * 4), by simp, hk, h1⟩, by simpa using h2⟩
set_option maxRecDepth 100000 in
set_option maxHeartbeats 16000000 in
theorem rput_any (ks : List Tm) (x : Tm) (A : Option Addr) (la ca : Nat) (B C : Nat → Prop) (u : Value) (w : World) (hlen : ks.length = la) (hA : TmsB B w A ks) (hlc : la ≤ ca) (hcm : ca ≤ maxLen) (hn : la ≤ 100000) (hu : TmV C w x u) (S : Nat → Prop) (hBS : ∀ g, B g → S g) (hCS : ∀ g, C g → S g) :
    Calls Tryz.prog 53 #[.slice A la ca, u] w (PutPost S w (putF ks x)) := by
  obtain ⟨e0, e1, e2, e3, rfl, he⟩ := hu
  obtain ⟨o, m, A1, la1, ca1, K1, lk1, ck1, rfl, rfl, rfl, rfl⟩ := he.shape
  obtain ⟨W0, hW0⟩ : ∃ y, w.alloc (.cells #[.int .i64 o, .int .i64 m, .slice A1 la1 ca1, .slice K1 lk1 ck1] 57) = y := ⟨_, rfl⟩
  have hb0 : Below w.heap.size w W0 := by rw [← hW0]; exact below_new _ _
  have hq0 : W0.heap[w.heap.size]? = some (.cells #[.int .i64 o, .int .i64 m, .slice A1 la1 ca1, .slice K1 lk1 ck1] 57) := by rw [← hW0]; exact heap_new_ _ _
  have he0 := TmC.below hb0 _ _ _ _ _ he
  obtain ⟨cs, hq, hcl, hco, hcc⟩ : ∃ cs, Quads B w ks cs ∧ cs.length = la * 4 ∧ (∀ u ∈ cs, u.oneCell' = true) ∧ (0 < la → ∃ g off, A = some ⟨g, off, none⟩ ∧ g < w.heap.size ∧ ∀ j u, cs[j]? = some u → w.cell? ⟨g, off + j, none⟩ = some u) := by
    rcases Nat.eq_zero_or_pos la with h0 | h0
    · have hk0 : ks = [] := List.eq_nil_of_length_eq_zero (by omega)
      subst hk0
      exact ⟨[], rfl, by simp [h0], fun u hu => by simp at hu, fun h => by omega⟩
    · obtain ⟨g, off, e, hg, _, hks⟩ := hA (by omega)
      obtain ⟨cs, hq, hc⟩ := Quads.of hks
      exact ⟨cs, hq, by rw [hq.len, hlen], hq.one, fun _ => ⟨g, off, e, hg, hc⟩⟩
  have hbox : ∀ W, Lat W0 W → W.cell? ⟨w.heap.size, 0, none⟩ = some (.int .i64 o) ∧ W.cell? ⟨w.heap.size, 1, none⟩ = some (.int .i64 m) ∧ W.cell? ⟨w.heap.size, 2, none⟩ = some (.slice A1 la1 ca1) ∧ W.cell? ⟨w.heap.size, 3, none⟩ = some (.slice K1 lk1 ck1) := fun W hW => hW.box hq0
  have hkid : ∀ W, Lat W0 W → ∀ j, j < la → ∃ g off d0 d1 d2 d3, A = some ⟨g, off, none⟩ ∧ W.cell? ⟨g, off + j * 4, none⟩ = some d0 ∧ W.cell? ⟨g, off + j * 4 + 1, none⟩ = some d1 ∧ W.cell? ⟨g, off + j * 4 + 2, none⟩ = some d2 ∧ W.cell? ⟨g, off + j * 4 + 3, none⟩ = some d3 ∧ TmC B W (ks.getD j default) d0 d1 d2 d3 := fun W hW j hj => by
    obtain ⟨g, off, e, hg, hB, hks⟩ := hA (by omega)
    obtain ⟨d0, d1, d2, d3, k0, k1, k2, k3, hd⟩ := (KidsC.below (Lat.below hb0 hW) hg hB ks off hks).at j (by omega)
    refine ⟨g, off, d0, d1, d2, d3, e, k0, k1, k2, k3, ?_⟩
    rwa [List.getD_eq_getElem?_getD, List.getElem?_eq_getElem (by omega), Option.getD_some]
  have hat1 : ∀ j, 0 < ordT (ks.getD j default) x → atF ks x (j + 1) = atF ks x j := fun j h => by conv => lhs; unfold atF; rw [if_pos h]
  have hat2 : ∀ j, ¬ 0 < ordT (ks.getD j default) x → atF ks x (j + 1) = j + 1 := fun j h => by conv => lhs; unfold atF; rw [if_neg h]
  have hat0 : atF ks x 0 = 0 := rfl
  have hsrc : ∀ W, Lat W0 W → ∀ j u, cs[j]? = some u → ∃ g off, A = some ⟨g, off, none⟩ ∧ W.cell? ⟨g, off + j, none⟩ = some u := fun W hW j u hj => by
    have h := (List.getElem?_eq_some_iff.1 hj).1
    obtain ⟨g, off, e, hg, hc⟩ := hcc (by omega)
    exact ⟨g, off, e, (Below.cell (Lat.below hb0 hW) (p := ⟨g, off + j, none⟩) hg).trans (hc j u hj)⟩
  have hsrc0 : 0 < la → ∃ g off, A = some ⟨g, off, none⟩ := fun h => by obtain ⟨g, off, e, _⟩ := hcc h; exact ⟨g, off, e⟩
  have hput : ∀ p, atF ks x la = p → putF ks x = ks.take p ++ x :: ks.drop p := fun p h => by unfold putF; rw [hlen, h]
  have hpl : (putF ks x).length = la + 1 := by rw [putF_len, hlen]
  obtain ⟨P, hP⟩ : ∃ y, putF ks x = y := ⟨_, rfl⟩
  rw [hP] at hput hpl ⊢
  obtain ⟨p, hp⟩ : ∃ y, atF ks x la = y := ⟨_, rfl⟩
  have hput := hput p hp
  have hple : p ≤ la := by rw [← hp]; exact atF_le _ _ _
  have hord := fun (W : World) (j : Nat) (d0 d1 d2 d3 : Value) (hW : Lat W0 W) (hd : TmC B W (ks.getD j default) d0 d1 d2 d3) => rorder_any (ks.getD j default) x B C (.agg #[d0, d1, d2, d3]) (.agg #[.int .i64 o, .int .i64 m, .slice A1 la1 ca1, .slice K1 lk1 ck1]) W ⟨_, _, _, _, rfl, hd⟩ ⟨_, _, _, _, rfl, hW.tm he0⟩
  have hc9 : ca ≤ 9223372036854775807 := by unfold maxLen at hcm; omega
  have HBOX := Lib.hid hbox
  have HBS := Lib.hid hBS
  have HCS := Lib.hid hCS
  have HKID := Lib.hid hkid
  have HAT1 := Lib.hid hat1
  have HAT2 := Lib.hid hat2
  have HAT0 := Lib.hid hat0
  have HSRC := Lib.hid hsrc
  have HSRC0 := Lib.hid hsrc0
  have HPUT := Lib.hid hput
  have HORD := Lib.hid hord
  have HB0 := Lib.hid hb0
  have HP := Lib.hid hp
  have HPL := Lib.hid hpl
  have HQ := Lib.hid hq
  have HCL := Lib.hid hcl
  have HCO := Lib.hid hco
  have HE0 := Lib.hid he0
  clear hBS hCS hbox hkid hat1 hat2 hat0 hsrc hsrc0 hput hord hb0 hp hpl hq hcl hco he0 hA he hcc hq0 hlen hP
  go_enter Tryz.func53, Tryz.ntmps53
  unfold PutPost
  go_wp2_with fail
  clear hW0
  go_loopg [5] (la + 1) (fun gk s5 wx => ∃ (i : Nat), s5 = .int .i64 i ∧ i ≤ la ∧ i < gk ∧ Hid (atF ks x i = p) ∧ Hid (Lat W0 wx))
  case atStart => exact ⟨la, rfl, Nat.le_refl _, by omega, HP, Lib.hid (Lat.refl _)⟩
  case round =>
    obtain ⟨i, rfl, hi, hgk, HI, HW⟩ := hrel
    rcases Nat.eq_zero_or_pos i with h0 | h0
    · subst h0
      have hp0 : p = 0 := by rw [← HI.out, HAT0.out]
      subst hp0
      have hcell := fun (d : Nat) (os : Array Obj) => HBOX.out (Sort.grow (redrawn wr d) os) (HW.out.re d os)
      have g0 := fun d os => (hcell d os).1
      have g1 := fun d os => (hcell d os).2.1
      have g2 := fun d os => (hcell d os).2.2.1
      have g3 := fun d os => (hcell d os).2.2.2
      clear hcell
      have hg0 : decide ((0 : Int) < 0) = false := rfl
      go_wp2_with fail
      refine wp_region_quiet_below (by kernel_rfl) (by kernel_rfl) ?_
      repeat (go_big_quiet_step ((fail)))
      refine wpQuiet_nil ?_
      intro _ hw'
      obtain ⟨⟨nq, osq⟩, hw''⟩ := hw'
      subst hw''
      cases A with
      | none =>
        have hla0 : la = 0 := by
          rcases Nat.eq_zero_or_pos la with h | h
          · exact h
          · obtain ⟨_, _, e⟩ := HSRC0.out h; cases e
        subst hla0
        obtain ⟨W1, hW1⟩ : ∃ y, Sort.grow (redrawn wr nq) osq = y := ⟨_, rfl⟩
        have hL1 : Lat W0 W1 := by rw [← hW1]; exact HW.out.re nq osq
        rw [hW1]
        clear hW1 g0 g1 g2 g3
        have hcl := HCL.out
        have hco := HCO.out
        obtain ⟨A3, c3, W3, hrun3, hown3, hb3⟩ := app_src (W1.alloc (.cells #[] 57)) W1.heap.size (.slice (some ⟨W1.heap.size, 0, none⟩) 0 0) 0 [] (World.ownsRow_lit (base := W1.heap.size) (e := 57) (size := 4) W1 #[] 0 (Nat.le_refl _) (Nat.zero_le _) rfl) none 0 ca (cs.take (0 * 4)) (by rw [List.length_take]; omega) (fun u hu => hco u (List.mem_of_mem_take hu)) (fun hpos => by
          obtain ⟨g, off, e⟩ := HSRC0.out (by omega)
          refine ⟨g, off, e, fun j u hu => ?_⟩
          have hj := (List.getElem?_eq_some_iff.1 hu).1
          rw [List.length_take] at hj
          rw [List.getElem?_take, if_pos (by omega)] at hu
          obtain ⟨g', off', e', hc⟩ := HSRC.out _ (hL1.then_ (below_new _ _)) j u hu
          rw [e] at e'; cases e'; exact hc) (by omega) (by simp)
        rw [Nat.zero_add, List.nil_append] at hown3
        simp only [Nat.zero_add] at hrun3
        have hb13 : Below W1.heap.size W1 W3 := (below_new W1 (.cells #[] 57)).trans hb3
        have hL3 : Lat W0 W3 := hL1.then_ hb13
        obtain ⟨W4, hW4⟩ : ∃ y, W3.alloc (.cells #[.int .i64 o, .int .i64 m, .slice A1 la1 ca1, .slice K1 lk1 ck1] 57) = y := ⟨_, rfl⟩
        have hbn4 : Below W3.heap.size W3 W4 := by rw [← hW4]; exact below_new _ _
        have hq4 : W4.heap[W3.heap.size]? = some (.cells #[.int .i64 o, .int .i64 m, .slice A1 la1 ca1, .slice K1 lk1 ck1] 57) := by rw [← hW4]; exact heap_new_ _ _
        obtain ⟨A5, c5, W5, hrun5, hown5, hb5⟩ := app_src W4 W1.heap.size (.slice A3 0 c3) 0 (cs.take (0 * 4)) (own_below hown3 hbn4) (some ⟨W3.heap.size, 0, none⟩) 1 1 [.int .i64 o, .int .i64 m, .slice A1 la1 ca1, .slice K1 lk1 ck1] rfl (by simp [Value.oneCell']) (fun _ => ⟨_, _, rfl, fun j u hu => by rw [Nat.zero_add, Lib.cell_of_heap hq4, ← hu]; simp⟩) (by omega) (Nat.le_trans hb13.size hbn4.size)
        have hb15 : Below W1.heap.size W1 W5 := (hb13.trans (hbn4.mono hb13.size)).trans hb5
        have hL5 : Lat W0 W5 := hL1.then_ hb15
        have hk0 := (HBOX.out W3 hL3)
        obtain ⟨k0, k1, k2, k3⟩ := hk0
        have hsrc5 := HSRC.out W5 hL5
        obtain ⟨A7, c7, W7, hrun7, hown7, hb7⟩ := app_src W5 W1.heap.size (.slice A5 (0 + 1) c5) (0 + 1) (cs.take (0 * 4) ++ [.int .i64 o, .int .i64 m, .slice A1 la1 ca1, .slice K1 lk1 ck1]) hown5 none 0 ca cs (by first | omega | (rw [List.length_drop]; omega)) (fun u hu => hco u (by first | exact hu | exact List.mem_of_mem_drop hu)) (fun hpos => by
          obtain ⟨g, off, e⟩ := HSRC0.out (by omega)
          refine ⟨g, off, e, fun j u hu => ?_⟩
          obtain ⟨g', off', e', hc⟩ := hsrc5 _ u hu
          rw [e] at e'; cases e'
          exact hc) (by omega) hb15.size
        have hend : PutPost S w P (.returned (.slice A7 (0 + 1 + 0) c7)) W7 := by
          have hl := HPL.out
          have hb17 := hb15.trans hb7
          have hB7 : Below w.heap.size w W7 := Lat.below HB0.out (hL1.then_ hb17)
          have e : 0 + 1 + 0 = P.length := by omega
          rw [e] at hown7 ⊢
          refine ⟨A7, c7, _, rfl, own_base hown7 (Lat.below HB0.out hL1).size, ?_, hB7⟩
          have hL7 : Lat W0 W7 := hL1.then_ hb17
          have hX7 := hL7.tm HE0.out
          have hQ7 := ((Quads.stays (stays_below hB7 _) HQ.out).mono (S' := S) HBS.out).take_ (0)
          rw [HPUT.out, List.append_assoc]
          refine Quads.app (ks' := x :: List.drop (0) ks) ⟨_, _, _, _, _, rfl, TmC.mono HCS.out _ _ _ _ _ hX7, ?_⟩ hQ7.1
          first | exact hQ7.2 | simpa using hQ7.2
        have HEND := Lib.hid hend
        clear hend hown3 hown5 hown7 hb3 hb5 hb7 hb13 hb15 hbn4 hq4 hL1 hL3 hL5 hsrc5 hcl hco HSRC HSRC0 HKID HORD HBOX
        go_wp2_with (first | (at_builtin; refine wpl_append rfl (.tmp 23) (.tmp 26) 22 rfl _ _ _ rfl rfl hrun3 ?_) | (at_builtin; refine wpl_append rfl (.tmp 28) (.tmp 30) 22 rfl _ _ _ rfl rfl hrun5 ?_) | (at_builtin; refine wpl_append rfl (.tmp 32) (.tmp 35) 22 rfl _ _ _ rfl rfl hrun7 ?_))
        go_ret
        exact HEND.out
      | some ad =>
        obtain ⟨W1, hW1⟩ : ∃ y, Sort.grow (redrawn wr nq) osq = y := ⟨_, rfl⟩
        have hL1 : Lat W0 W1 := by rw [← hW1]; exact HW.out.re nq osq
        rw [hW1]
        clear hW1 g0 g1 g2 g3
        have hcl := HCL.out
        have hco := HCO.out
        obtain ⟨A3, c3, W3, hrun3, hown3, hb3⟩ := app_src (W1.alloc (.cells #[] 57)) W1.heap.size (.slice (some ⟨W1.heap.size, 0, none⟩) 0 0) 0 [] (World.ownsRow_lit (base := W1.heap.size) (e := 57) (size := 4) W1 #[] 0 (Nat.le_refl _) (Nat.zero_le _) rfl) (some ad) 0 ca (cs.take (0 * 4)) (by rw [List.length_take]; omega) (fun u hu => hco u (List.mem_of_mem_take hu)) (fun hpos => by
          obtain ⟨g, off, e⟩ := HSRC0.out (by omega)
          refine ⟨g, off, e, fun j u hu => ?_⟩
          have hj := (List.getElem?_eq_some_iff.1 hu).1
          rw [List.length_take] at hj
          rw [List.getElem?_take, if_pos (by omega)] at hu
          obtain ⟨g', off', e', hc⟩ := HSRC.out _ (hL1.then_ (below_new _ _)) j u hu
          rw [e] at e'; cases e'; exact hc) (by omega) (by simp)
        rw [Nat.zero_add, List.nil_append] at hown3
        simp only [Nat.zero_add] at hrun3
        have hb13 : Below W1.heap.size W1 W3 := (below_new W1 (.cells #[] 57)).trans hb3
        have hL3 : Lat W0 W3 := hL1.then_ hb13
        obtain ⟨W4, hW4⟩ : ∃ y, W3.alloc (.cells #[.int .i64 o, .int .i64 m, .slice A1 la1 ca1, .slice K1 lk1 ck1] 57) = y := ⟨_, rfl⟩
        have hbn4 : Below W3.heap.size W3 W4 := by rw [← hW4]; exact below_new _ _
        have hq4 : W4.heap[W3.heap.size]? = some (.cells #[.int .i64 o, .int .i64 m, .slice A1 la1 ca1, .slice K1 lk1 ck1] 57) := by rw [← hW4]; exact heap_new_ _ _
        obtain ⟨A5, c5, W5, hrun5, hown5, hb5⟩ := app_src W4 W1.heap.size (.slice A3 0 c3) 0 (cs.take (0 * 4)) (own_below hown3 hbn4) (some ⟨W3.heap.size, 0, none⟩) 1 1 [.int .i64 o, .int .i64 m, .slice A1 la1 ca1, .slice K1 lk1 ck1] rfl (by simp [Value.oneCell']) (fun _ => ⟨_, _, rfl, fun j u hu => by rw [Nat.zero_add, Lib.cell_of_heap hq4, ← hu]; simp⟩) (by omega) (Nat.le_trans hb13.size hbn4.size)
        have hb15 : Below W1.heap.size W1 W5 := (hb13.trans (hbn4.mono hb13.size)).trans hb5
        have hL5 : Lat W0 W5 := hL1.then_ hb15
        have hk0 := (HBOX.out W3 hL3)
        obtain ⟨k0, k1, k2, k3⟩ := hk0
        have hsrc5 := HSRC.out W5 hL5
        obtain ⟨A7, c7, W7, hrun7, hown7, hb7⟩ := app_src W5 W1.heap.size (.slice A5 (0 + 1) c5) (0 + 1) (cs.take (0 * 4) ++ [.int .i64 o, .int .i64 m, .slice A1 la1 ca1, .slice K1 lk1 ck1]) hown5 (some ad) la ca cs (by first | omega | (rw [List.length_drop]; omega)) (fun u hu => hco u (by first | exact hu | exact List.mem_of_mem_drop hu)) (fun hpos => by
          obtain ⟨g, off, e⟩ := HSRC0.out (by omega)
          refine ⟨g, off, e, fun j u hu => ?_⟩
          obtain ⟨g', off', e', hc⟩ := hsrc5 _ u hu
          rw [e] at e'; cases e'
          exact hc) (by omega) hb15.size
        have hend : PutPost S w P (.returned (.slice A7 (0 + 1 + la) c7)) W7 := by
          have hl := HPL.out
          have hb17 := hb15.trans hb7
          have hB7 : Below w.heap.size w W7 := Lat.below HB0.out (hL1.then_ hb17)
          have e : 0 + 1 + la = P.length := by omega
          rw [e] at hown7 ⊢
          refine ⟨A7, c7, _, rfl, own_base hown7 (Lat.below HB0.out hL1).size, ?_, hB7⟩
          have hL7 : Lat W0 W7 := hL1.then_ hb17
          have hX7 := hL7.tm HE0.out
          have hQ7 := ((Quads.stays (stays_below hB7 _) HQ.out).mono (S' := S) HBS.out).take_ (0)
          rw [HPUT.out, List.append_assoc]
          refine Quads.app (ks' := x :: List.drop (0) ks) ⟨_, _, _, _, _, rfl, TmC.mono HCS.out _ _ _ _ _ hX7, ?_⟩ hQ7.1
          first | exact hQ7.2 | simpa using hQ7.2
        have HEND := Lib.hid hend
        clear hend hown3 hown5 hown7 hb3 hb5 hb7 hb13 hb15 hbn4 hq4 hL1 hL3 hL5 hsrc5 hcl hco HSRC HSRC0 HKID HORD HBOX
        go_wp2_with (first | (at_builtin; refine wpl_append rfl (.tmp 23) (.tmp 26) 22 rfl _ _ _ rfl rfl hrun3 ?_) | (at_builtin; refine wpl_append rfl (.tmp 28) (.tmp 30) 22 rfl _ _ _ rfl rfl hrun5 ?_) | (at_builtin; refine wpl_append rfl (.tmp 32) (.tmp 35) 22 rfl _ _ _ rfl rfl hrun7 ?_))
        go_ret
        exact HEND.out
    · obtain ⟨j, rfl⟩ : ∃ j, i = j + 1 := ⟨i - 1, by omega⟩
      obtain ⟨gk', rfl⟩ : ∃ g', gk = g' + 1 := ⟨gk - 1, by omega⟩
      obtain ⟨g, off, d0, d1, d2, d3, rfl, e0, e1, e2, e3, hd⟩ := HKID.out wr HW.out j (by omega)
      have ho := fun W (h : Lat wr W) => HORD.out W j d0 d1 d2 d3 (HW.out.then_ h) (h.tm hd)
      have ha1 := HAT1.out j
      have ha2 := HAT2.out j
      have hii := HI.out
      obtain ⟨r, hr⟩ : ∃ y, ordT (ks.getD j default) x = y := ⟨_, rfl⟩
      rw [hr] at ho ha1 ha2
      have HO := Lib.hid ho
      have x0 := fun d os => box_kid ((Lat.refl wr).re d os) e0
      have x1 := fun d os => box_kid ((Lat.refl wr).re d os) e1
      have x2 := fun d os => box_kid ((Lat.refl wr).re d os) e2
      have x3 := fun d os => box_kid ((Lat.refl wr).re d os) e3
      have hw1 : IntKind.i64.wrap (((j + 1 : Nat) : Int) - 1) = (j : Int) := by rw [IntWalk.i64_in _ (by omega)]; omega
      have hw2 : IntKind.i64.wrap (j : Int) = (j : Int) := IntWalk.i64_in _ (by omega)
      have hjl : (j : Int) < (la : Int) := by omega
      have hj0 : (0 : Int) ≤ (j : Int) := by omega
      have hjp : (0 : Int) < (j : Int) + 1 := by omega
      have hjd : decide ((0 : Int) < (j : Int) + 1) = true := decide_eq_true hjp
      have hje : decide ((0 : Int) < ((j + 1 : Nat) : Int)) = true := decide_eq_true (by omega)
      have hcell := fun (d : Nat) (os : Array Obj) => HBOX.out (Sort.grow (redrawn wr d) os) (HW.out.re d os)
      have g0 := fun d os => (hcell d os).1
      have g1 := fun d os => (hcell d os).2.1
      have g2 := fun d os => (hcell d os).2.2.1
      have g3 := fun d os => (hcell d os).2.2.2
      clear hcell
      by_cases hr0 : 0 < r
      · have hrd : decide (0 < r) = true := by simpa using hr0
        have hnx : atF ks x j = p := by rw [← ha1 (by omega)]; exact hii
        have HNX := Lib.hid hnx
        clear ha1 ha2 hii hr hd ho e0 e1 e2 e3 hnx
        go_wp2_with fail
        refine wp_region_quiet_below (by kernel_rfl) (by kernel_rfl) ?_
        repeat (go_big_quiet_step (((go_at_call 60; refine Calls.regrown_of (HO.out _ ((Lat.refl _).re _ _))))))
        refine wpQuiet_nil ?_
        intro _ hw'
        obtain ⟨⟨nq, osq⟩, hw''⟩ := hw'
        subst hw''
        obtain ⟨W1, hW1⟩ : ∃ y, Sort.grow (redrawn wr nq) osq = y := ⟨_, rfl⟩
        have hL1 : Lat W0 W1 := by rw [← hW1]; exact HW.out.re nq osq
        rw [hW1]
        have HL1 := Lib.hid hL1
        clear hW1 hL1 g0 g1 g2 g3 x0 x1 x2 x3
        go_wp2
        go_roundg gk'
        case measure => omega
        case rel => exact ⟨j, by go_num, by omega, by omega, HNX, HL1⟩
      · have hrd : decide (0 < r) = false := by simpa using hr0
        have hp : j + 1 = p := by rw [← ha2 (by omega)]; exact hii
        subst hp
        clear ha1 ha2 hii hr hd ho e0 e1 e2 e3
        go_wp2_with fail
        refine wp_region_quiet_below (by kernel_rfl) (by kernel_rfl) ?_
        repeat (go_big_quiet_step (((go_at_call 60; refine Calls.regrown_of (HO.out _ ((Lat.refl _).re _ _))))))
        refine wpQuiet_nil ?_
        intro _ hw'
        obtain ⟨⟨nq, osq⟩, hw''⟩ := hw'
        subst hw''
        clear x0 x1 x2 x3 HO hw1 hw2
        by_cases hcp : ca = j + 1
        · have hla : la = j + 1 := by omega
          subst hcp hla
          obtain ⟨W1, hW1⟩ : ∃ y, Sort.grow (redrawn wr nq) osq = y := ⟨_, rfl⟩
          have hL1 : Lat W0 W1 := by rw [← hW1]; exact HW.out.re nq osq
          rw [hW1]
          clear hW1 g0 g1 g2 g3
          have hcl := HCL.out
          have hco := HCO.out
          obtain ⟨A3, c3, W3, hrun3, hown3, hb3⟩ := app_src (W1.alloc (.cells #[] 57)) W1.heap.size (.slice (some ⟨W1.heap.size, 0, none⟩) 0 0) 0 [] (World.ownsRow_lit (base := W1.heap.size) (e := 57) (size := 4) W1 #[] 0 (Nat.le_refl _) (Nat.zero_le _) rfl) (some ⟨g, off, none⟩) (j + 1) (j + 1) (cs.take ((j + 1) * 4)) (by rw [List.length_take]; omega) (fun u hu => hco u (List.mem_of_mem_take hu)) (fun hpos => by
            obtain ⟨g, off, e⟩ := HSRC0.out (by omega)
            refine ⟨g, off, e, fun j u hu => ?_⟩
            have hj := (List.getElem?_eq_some_iff.1 hu).1
            rw [List.length_take] at hj
            rw [List.getElem?_take, if_pos (by omega)] at hu
            obtain ⟨g', off', e', hc⟩ := HSRC.out _ (hL1.then_ (below_new _ _)) j u hu
            rw [e] at e'; cases e'; exact hc) (by omega) (by simp)
          rw [Nat.zero_add, List.nil_append] at hown3
          simp only [Nat.zero_add] at hrun3
          have hb13 : Below W1.heap.size W1 W3 := (below_new W1 (.cells #[] 57)).trans hb3
          have hL3 : Lat W0 W3 := hL1.then_ hb13
          obtain ⟨W4, hW4⟩ : ∃ y, W3.alloc (.cells #[.int .i64 o, .int .i64 m, .slice A1 la1 ca1, .slice K1 lk1 ck1] 57) = y := ⟨_, rfl⟩
          have hbn4 : Below W3.heap.size W3 W4 := by rw [← hW4]; exact below_new _ _
          have hq4 : W4.heap[W3.heap.size]? = some (.cells #[.int .i64 o, .int .i64 m, .slice A1 la1 ca1, .slice K1 lk1 ck1] 57) := by rw [← hW4]; exact heap_new_ _ _
          obtain ⟨A5, c5, W5, hrun5, hown5, hb5⟩ := app_src W4 W1.heap.size (.slice A3 (j + 1) c3) (j + 1) (cs.take ((j + 1) * 4)) (own_below hown3 hbn4) (some ⟨W3.heap.size, 0, none⟩) 1 1 [.int .i64 o, .int .i64 m, .slice A1 la1 ca1, .slice K1 lk1 ck1] rfl (by simp [Value.oneCell']) (fun _ => ⟨_, _, rfl, fun j u hu => by rw [Nat.zero_add, Lib.cell_of_heap hq4, ← hu]; simp⟩) (by omega) (Nat.le_trans hb13.size hbn4.size)
          have hb15 : Below W1.heap.size W1 W5 := (hb13.trans (hbn4.mono hb13.size)).trans hb5
          have hL5 : Lat W0 W5 := hL1.then_ hb15
          have hk0 := (HBOX.out W3 hL3)
          obtain ⟨k0, k1, k2, k3⟩ := hk0
          have hsrc5 := HSRC.out W5 hL5
          obtain ⟨A7, c7, W7, hrun7, hown7, hb7⟩ := app_src W5 W1.heap.size (.slice A5 ((j + 1) + 1) c5) ((j + 1) + 1) (cs.take ((j + 1) * 4) ++ [.int .i64 o, .int .i64 m, .slice A1 la1 ca1, .slice K1 lk1 ck1]) hown5 (some ⟨g, off, none⟩) 0 0 (cs.drop ((j + 1) * 4)) (by first | omega | (rw [List.length_drop]; omega)) (fun u hu => hco u (by first | exact hu | exact List.mem_of_mem_drop hu)) (fun hpos => by
            omega) (by omega) hb15.size
          have hend : PutPost S w P (.returned (.slice A7 ((j + 1) + 1 + 0) c7)) W7 := by
            have hl := HPL.out
            have hb17 := hb15.trans hb7
            have hB7 : Below w.heap.size w W7 := Lat.below HB0.out (hL1.then_ hb17)
            have e : (j + 1) + 1 + 0 = P.length := by omega
            rw [e] at hown7 ⊢
            refine ⟨A7, c7, _, rfl, own_base hown7 (Lat.below HB0.out hL1).size, ?_, hB7⟩
            have hL7 : Lat W0 W7 := hL1.then_ hb17
            have hX7 := hL7.tm HE0.out
            have hQ7 := ((Quads.stays (stays_below hB7 _) HQ.out).mono (S' := S) HBS.out).take_ ((j + 1))
            rw [HPUT.out, List.append_assoc]
            refine Quads.app (ks' := x :: List.drop ((j + 1)) ks) ⟨_, _, _, _, _, rfl, TmC.mono HCS.out _ _ _ _ _ hX7, ?_⟩ hQ7.1
            first | exact hQ7.2 | simpa using hQ7.2
          have HEND := Lib.hid hend
          clear hend hown3 hown5 hown7 hb3 hb5 hb7 hb13 hb15 hbn4 hq4 hL1 hL3 hL5 hsrc5 hcl hco HSRC HSRC0 HKID HORD HBOX
          go_wp2_with (first | (at_builtin; refine wpl_append rfl (.tmp 23) (.tmp 26) 22 rfl _ _ _ rfl rfl hrun3 ?_) | (at_builtin; refine wpl_append rfl (.tmp 28) (.tmp 30) 22 rfl _ _ _ rfl rfl hrun5 ?_) | (at_builtin; refine wpl_append rfl (.tmp 32) (.tmp 35) 22 rfl _ _ _ rfl rfl hrun7 ?_))
          go_ret
          exact HEND.out
        · have hcp2 : ¬ ((ca : Int) = (j : Int) + 1) := by omega
          obtain ⟨W1, hW1⟩ : ∃ y, Sort.grow (redrawn wr nq) osq = y := ⟨_, rfl⟩
          have hL1 : Lat W0 W1 := by rw [← hW1]; exact HW.out.re nq osq
          rw [hW1]
          clear hW1 g0 g1 g2 g3
          have hcl := HCL.out
          have hco := HCO.out
          obtain ⟨A3, c3, W3, hrun3, hown3, hb3⟩ := app_src (W1.alloc (.cells #[] 57)) W1.heap.size (.slice (some ⟨W1.heap.size, 0, none⟩) 0 0) 0 [] (World.ownsRow_lit (base := W1.heap.size) (e := 57) (size := 4) W1 #[] 0 (Nat.le_refl _) (Nat.zero_le _) rfl) (some ⟨g, off, none⟩) (j + 1) ca (cs.take ((j + 1) * 4)) (by rw [List.length_take]; omega) (fun u hu => hco u (List.mem_of_mem_take hu)) (fun hpos => by
            obtain ⟨g, off, e⟩ := HSRC0.out (by omega)
            refine ⟨g, off, e, fun j u hu => ?_⟩
            have hj := (List.getElem?_eq_some_iff.1 hu).1
            rw [List.length_take] at hj
            rw [List.getElem?_take, if_pos (by omega)] at hu
            obtain ⟨g', off', e', hc⟩ := HSRC.out _ (hL1.then_ (below_new _ _)) j u hu
            rw [e] at e'; cases e'; exact hc) (by omega) (by simp)
          rw [Nat.zero_add, List.nil_append] at hown3
          simp only [Nat.zero_add] at hrun3
          have hb13 : Below W1.heap.size W1 W3 := (below_new W1 (.cells #[] 57)).trans hb3
          have hL3 : Lat W0 W3 := hL1.then_ hb13
          obtain ⟨W4, hW4⟩ : ∃ y, W3.alloc (.cells #[.int .i64 o, .int .i64 m, .slice A1 la1 ca1, .slice K1 lk1 ck1] 57) = y := ⟨_, rfl⟩
          have hbn4 : Below W3.heap.size W3 W4 := by rw [← hW4]; exact below_new _ _
          have hq4 : W4.heap[W3.heap.size]? = some (.cells #[.int .i64 o, .int .i64 m, .slice A1 la1 ca1, .slice K1 lk1 ck1] 57) := by rw [← hW4]; exact heap_new_ _ _
          obtain ⟨A5, c5, W5, hrun5, hown5, hb5⟩ := app_src W4 W1.heap.size (.slice A3 (j + 1) c3) (j + 1) (cs.take ((j + 1) * 4)) (own_below hown3 hbn4) (some ⟨W3.heap.size, 0, none⟩) 1 1 [.int .i64 o, .int .i64 m, .slice A1 la1 ca1, .slice K1 lk1 ck1] rfl (by simp [Value.oneCell']) (fun _ => ⟨_, _, rfl, fun j u hu => by rw [Nat.zero_add, Lib.cell_of_heap hq4, ← hu]; simp⟩) (by omega) (Nat.le_trans hb13.size hbn4.size)
          have hb15 : Below W1.heap.size W1 W5 := (hb13.trans (hbn4.mono hb13.size)).trans hb5
          have hL5 : Lat W0 W5 := hL1.then_ hb15
          have hk0 := (HBOX.out W3 hL3)
          obtain ⟨k0, k1, k2, k3⟩ := hk0
          have hsrc5 := HSRC.out W5 hL5
          obtain ⟨A7, c7, W7, hrun7, hown7, hb7⟩ := app_src W5 W1.heap.size (.slice A5 ((j + 1) + 1) c5) ((j + 1) + 1) (cs.take ((j + 1) * 4) ++ [.int .i64 o, .int .i64 m, .slice A1 la1 ca1, .slice K1 lk1 ck1]) hown5 (some ⟨g, off + (j + 1) * 4, none⟩) (la - (j + 1)) (ca - (j + 1)) (cs.drop ((j + 1) * 4)) (by first | omega | (rw [List.length_drop]; omega)) (fun u hu => hco u (by first | exact hu | exact List.mem_of_mem_drop hu)) (fun hpos => by
            refine ⟨g, off + (j + 1) * 4, rfl, fun i u hu => ?_⟩
            rw [List.getElem?_drop] at hu
            obtain ⟨g', off', e', hc⟩ := hsrc5 _ u hu
            cases e'
            rw [Nat.add_assoc]
            exact hc) (by omega) hb15.size
          have hend : PutPost S w P (.returned (.slice A7 ((j + 1) + 1 + (la - (j + 1))) c7)) W7 := by
            have hl := HPL.out
            have hb17 := hb15.trans hb7
            have hB7 : Below w.heap.size w W7 := Lat.below HB0.out (hL1.then_ hb17)
            have e : (j + 1) + 1 + (la - (j + 1)) = P.length := by omega
            rw [e] at hown7 ⊢
            refine ⟨A7, c7, _, rfl, own_base hown7 (Lat.below HB0.out hL1).size, ?_, hB7⟩
            have hL7 : Lat W0 W7 := hL1.then_ hb17
            have hX7 := hL7.tm HE0.out
            have hQ7 := ((Quads.stays (stays_below hB7 _) HQ.out).mono (S' := S) HBS.out).take_ ((j + 1))
            rw [HPUT.out, List.append_assoc]
            refine Quads.app (ks' := x :: List.drop ((j + 1)) ks) ⟨_, _, _, _, _, rfl, TmC.mono HCS.out _ _ _ _ _ hX7, ?_⟩ hQ7.1
            first | exact hQ7.2 | simpa using hQ7.2
          have HEND := Lib.hid hend
          clear hend hown3 hown5 hown7 hb3 hb5 hb7 hb13 hb15 hbn4 hq4 hL1 hL3 hL5 hsrc5 hcl hco HSRC HSRC0 HKID HORD HBOX
          go_wp2_with (first | (at_builtin; refine wpl_append rfl (.tmp 23) (.tmp 26) 22 rfl _ _ _ rfl rfl hrun3 ?_) | (at_builtin; refine wpl_append rfl (.tmp 28) (.tmp 30) 22 rfl _ _ _ rfl rfl hrun5 ?_) | (at_builtin; refine wpl_append rfl (.tmp 32) (.tmp 35) 22 rfl _ _ _ rfl rfl hrun7 ?_))
          go_ret
          exact HEND.out
end Go.Proofs.YtfmdmahlljbbmaaGreatDoor.tmc
namespace Go.Proofs.YtfmdmahlljbbmaaGreatDoor.tmc
open Go.RowKit Go.Proofs.YtfmdmahlljbbmaaGreatDoor.tlvc
set_option linter.unusedVariables false
theorem rorder_same (n : Tm) (C1 C2 : Nat → Prop) (v u : Value) (w : World) (h : TmV C1 w n v) (k : TmV C2 w n u) : Calls Tryz.prog 60 #[v, u] w fun e w' => e = .returned (.int .i64 0) ∧ Below w.heap.size w w' := by
  have := rorder_any n n C1 C2 v u w h k
  rwa [ordT_refl] at this
set_option maxRecDepth 100000 in
theorem same_self (n : Tm) (C1 C2 : Nat → Prop) (v u : Value) (w : World) (h : TmV C1 w n v) (k : TmV C2 w n u) : Calls Tryz.prog 42 #[v, u] w fun e w' => e = .returned (.bool true) ∧ Below w.heap.size w w' := by
  obtain ⟨c0, c1, c2, c3, rfl, hc⟩ := h
  obtain ⟨e0, e1, e2, e3, rfl, he⟩ := k
  obtain ⟨oo, mm, A, la, ca, K, lk, ck, rfl, rfl, rfl, rfl⟩ := hc.shape
  obtain ⟨oo', mm', A', la', ca', K', lk', ck', rfl, rfl, rfl, rfl⟩ := he.shape
  obtain ⟨W0, hW0⟩ : ∃ y, (w.alloc (.cells #[.int .i64 oo, .int .i64 mm, .slice A la ca, .slice K lk ck] 57)).alloc (.cells #[.int .i64 oo', .int .i64 mm', .slice A' la' ca', .slice K' lk' ck'] 57) = y := ⟨_, rfl⟩
  have hb0 : Below w.heap.size w W0 := by rw [← hW0]; exact (below_new _ _).alloc (by simp) _
  have ho := rorder_same n C1 C2 (.agg #[.int .i64 oo, .int .i64 mm, .slice A la ca, .slice K lk ck]) (.agg #[.int .i64 oo', .int .i64 mm', .slice A' la' ca', .slice K' lk' ck']) W0 ⟨_, _, _, _, rfl, TmC.below hb0 _ _ _ _ _ hc⟩ ⟨_, _, _, _, rfl, TmC.below hb0 _ _ _ _ _ he⟩
  have HO := Lib.hid ho
  have HB := Lib.hid hb0
  have HW := Lib.hid hW0
  clear ho hb0 hc he hW0
  go_enter Tryz.func42, Tryz.ntmps42
  go_wp2_with fail
  rw [HW.out]
  refine HO.out.mono ?_
  rintro e w2 ⟨rfl, hb2⟩
  have hend := HB.out.trans (hb2.mono HB.out.size)
  clear HO HB hb2
  go_wp2
  go_ret
  exact ⟨rfl, hend⟩
theorem tmsb_of {B : Nat → Prop} {w : World} {o m : Int} {d : List Int} {ks : List Tm} {c0 c1 c2 : Value} {K : Option Addr} {lk ck : Nat} (h : TmC B w (.mk o m d ks) c0 c1 c2 (.slice K lk ck)) (hl : ks.length = lk) : TmsB B w K ks := by
  unfold TmC at h
  obtain ⟨_, _, _, _, _, K', ck', e, _, _, h3⟩ := h
  cases e
  exact h3
def RPowPost (w : World) (r : Option Tm) (e : Ending) (w' : World) : Prop := ∃ v', e = .returned (.tuple #[v', .bool r.isSome]) ∧ TmV (fun _ => True) w' (r.getD (.mk 0 0 [] [])) v' ∧ Below w.heap.size w w'
theorem res_end2 {w W : World} {b : Nat} {x0 x1 x2 x3 y0 y1 y2 y3 : Value} {T : TypeId} {fr : Nat × Nat} {n : Tm} {S : Nat → Prop} (hb : w.heap.size ≤ b) (hB : Below w.heap.size w W) (hres : W.heap[b]? = some (.cells #[x0, x1, x2, x3] T fr)) (hS : ∀ g, S g → g ≠ b) (h : TmC S W n y0 y1 y2 y3) :
    ((((W.setCell ⟨b, 0, none⟩ y0).setCell ⟨b, 1, none⟩ y1).setCell ⟨b, 2, none⟩ y2).setCell ⟨b, 3, none⟩ y3).cell? ⟨b, 0, none⟩ = some y0 ∧ ((((W.setCell ⟨b, 0, none⟩ y0).setCell ⟨b, 1, none⟩ y1).setCell ⟨b, 2, none⟩ y2).setCell ⟨b, 3, none⟩ y3).cell? ⟨b, 1, none⟩ = some y1 ∧ ((((W.setCell ⟨b, 0, none⟩ y0).setCell ⟨b, 1, none⟩ y1).setCell ⟨b, 2, none⟩ y2).setCell ⟨b, 3, none⟩ y3).cell? ⟨b, 2, none⟩ = some y2 ∧ ((((W.setCell ⟨b, 0, none⟩ y0).setCell ⟨b, 1, none⟩ y1).setCell ⟨b, 2, none⟩ y2).setCell ⟨b, 3, none⟩ y3).cell? ⟨b, 3, none⟩ = some y3 ∧
      Below w.heap.size w ((((W.setCell ⟨b, 0, none⟩ y0).setCell ⟨b, 1, none⟩ y1).setCell ⟨b, 2, none⟩ y2).setCell ⟨b, 3, none⟩ y3) ∧ TmV S ((((W.setCell ⟨b, 0, none⟩ y0).setCell ⟨b, 1, none⟩ y1).setCell ⟨b, 2, none⟩ y2).setCell ⟨b, 3, none⟩ y3) n (.agg #[y0, y1, y2, y3]) := by
  have hbox := set4_box hres y0 y1 y2 y3
  refine ⟨(Lib.cell_of_heap (w := set4 W b 0 y0 y1 y2 y3) hbox _).trans rfl, (Lib.cell_of_heap (w := set4 W b 0 y0 y1 y2 y3) hbox _).trans rfl, (Lib.cell_of_heap (w := set4 W b 0 y0 y1 y2 y3) hbox _).trans rfl, (Lib.cell_of_heap (w := set4 W b 0 y0 y1 y2 y3) hbox _).trans rfl, hB.trans (set4_below W _ b 0 y0 y1 y2 y3 hb), y0, y1, y2, y3, rfl, ?_⟩
  have hst : Stays S W (set4 W b 0 y0 y1 y2 y3) := ⟨by rw [set4_size]; exact Nat.le_refl _, fun p hp _ => cell_same (set4_other _ _ _ _ _ _ _ _ (hS _ hp))⟩
  exact TmC.stays hst _ _ _ _ _ h
set_option maxRecDepth 100000 in
set_option maxHeartbeats 16000000 in
theorem rpow_all (t x : Tm) (B C : Nat → Prop) (v u : Value) (w : World) (hv : TmV B w t v) (hu : TmV C w x u) (hsz : szT t + szT x ≤ 100000) : Calls Tryz.prog 38 #[v, u] w (RPowPost w (powF t x)) := by
  obtain ⟨R, hR⟩ : ∃ y, powF t x = y := ⟨_, rfl⟩
  rw [hR]
  have HR := Lib.hid hR
  clear hR
  obtain ⟨o, m, d, ks⟩ := t
  obtain ⟨o', m', d', ls⟩ := x
  obtain ⟨c0, c1, c2, c3, rfl, hc⟩ := hv
  obtain ⟨e0, e1, e2, e3, rfl, he⟩ := hu
  obtain ⟨oo, mm, A, la, ca, K, lk, ck, rfl, rfl, rfl, rfl⟩ := hc.shape
  obtain ⟨oo', mm', A', la', ca', K', lk', ck', rfl, rfl, rfl, rfl⟩ := he.shape
  have hoo : oo = o := by unfold TmC at hc; have := hc.1; cases this; rfl
  subst hoo
  obtain ⟨W0, hW0⟩ : ∃ y, ((w.alloc (.cells #[.int .i64 oo, .int .i64 mm, .slice A la ca, .slice K lk ck] 57)).alloc (.cells #[.int .i64 oo', .int .i64 mm', .slice A' la' ca', .slice K' lk' ck'] 57)).alloc (.cells #[.int .i64 0, .int .i64 0, .slice none 0 0, .slice none 0 0] 57) = y := ⟨_, rfl⟩
  have hbx := boxes_new w (.int .i64 oo) (.int .i64 mm) (.slice A la ca) (.slice K lk ck) (.int .i64 oo') (.int .i64 mm') (.slice A' la' ca') (.slice K' lk' ck')
  rw [hW0] at hbx
  obtain ⟨RT, hRT⟩ : ∃ y, rightF (.mk oo m d ks) 0 = y := ⟨_, rfl⟩
  obtain ⟨RX, hRX⟩ : ∃ y, rightF (.mk o' m' d' ls) 0 = y := ⟨_, rfl⟩
  have h1 := rright_any _ B (.agg #[.int .i64 oo, .int .i64 mm, .slice A la ca, .slice K lk ck]) W0 ⟨_, _, _, _, rfl, TmC.below hbx.1 _ _ _ _ _ hc⟩
  have h2 := fun W (hW : Below w.heap.size w W) => rright_any _ C (.agg #[.int .i64 oo', .int .i64 mm', .slice A' la' ca', .slice K' lk' ck']) W ⟨_, _, _, _, rfl, TmC.below hW _ _ _ _ _ he⟩
  rw [hRT] at h1
  rw [hRX] at h2
  obtain ⟨hll, hlc, hcm, _⟩ := term_kids hc
  have hcb := TmC.bound _ _ _ _ _ hc
  have heb := TmC.bound _ _ _ _ _ he
  have H1 := Lib.hid h1
  have H2 := Lib.hid h2
  have HBX := Lib.hid hbx
  have HRT := Lib.hid hRT
  have HRX := Lib.hid hRX
  have HC := Lib.hid hcb
  have HE0 := Lib.hid heb
  have HLL := Lib.hid hll
  have HSZ := Lib.hid hsz
  obtain ⟨a0, a1, a2, a3⟩ := hbx.one
  obtain ⟨b0, b1, b2, b3⟩ := hbx.two
  obtain ⟨z0, z1, z2, z3, f0, f1, f2, f3⟩ := hbx.res
  clear h1 h2 hbx hc he hRT hRX hcb heb hll hsz z0 z1 z2 z3 f0 f1 f2 f3
  have hck9 : ck ≤ 9223372036854775807 := by unfold maxLen at hcm; omega
  go_enter Tryz.func38, Tryz.ntmps38
  unfold RPowPost
  go_wp2_with fail
  clear hW0
  refine H1.out.mono ?_
  rintro e w1 ⟨rfl, hb1⟩
  have hbx1 := HBX.out.below hb1
  clear a0 a1 a2 a3 b0 b1 b2 b3 H1 HBX hb1
  obtain ⟨a0, a1, a2, a3⟩ := hbx1.one
  obtain ⟨b0, b1, b2, b3⟩ := hbx1.two
  obtain ⟨z0, z1, z2, z3, f0, f1, f2, f3⟩ := hbx1.res
  have h3 := H2.out w1 hbx1.1
  have H3 := Lib.hid h3
  have HBX1 := Lib.hid hbx1
  clear h3 hbx1 H2
  go_wp2_with fail
  refine H3.out.mono ?_
  rintro e w2 ⟨rfl, hb2⟩
  have hbx2 := HBX1.out.below hb2
  clear a0 a1 a2 a3 b0 b1 b2 b3 z0 z1 z2 z3 f0 f1 f2 f3 H3 HBX1 hb2
  obtain ⟨a0, a1, a2, a3⟩ := hbx2.one
  obtain ⟨b0, b1, b2, b3⟩ := hbx2.two
  obtain ⟨z0, z1, z2, z3, f0, f1, f2, f3⟩ := hbx2.res
  cases RT with
  | false =>
    have eR : none = R := by rw [← HR.out]; unfold powF; rw [if_neg (fun h => by rw [HRT.out] at h; exact Bool.false_ne_true h.1)]
    subst eR
    obtain ⟨r0, r1, r2, r3, hB, hT⟩ := res_end2 (w := w) (b := w.heap.size + 1 + 1) (S := fun g => g ≠ w.heap.size + 1 + 1) (by omega) hbx2.1 hbx2.2.2.2.1 (fun g hg => hg) (nil_tm _ _)
    have HE := Lib.hid (And.intro hB hT)
    clear hB hT
    clear hbx2
    go_wp2_with fail
    refine bodyPost_ret (v := .tuple #[.agg #[.int .i64 0, .int .i64 0, .slice none 0 0, .slice none 0 0], .bool false]) ?_ rfl ⟨_, rfl, TmV.mono HE.out.2 (fun _ _ => trivial), HE.out.1⟩
    simp [results, Tryz.results38, go_sem, r0, r1, r2, r3]
  | true =>
    cases RX with
    | false =>
      have eR : none = R := by rw [← HR.out]; unfold powF; rw [if_neg (fun h => by rw [HRX.out] at h; exact Bool.false_ne_true h.2.1)]
      subst eR
      obtain ⟨r0, r1, r2, r3, hB, hT⟩ := res_end2 (w := w) (b := w.heap.size + 1 + 1) (S := fun g => g ≠ w.heap.size + 1 + 1) (by omega) hbx2.1 hbx2.2.2.2.1 (fun g hg => hg) (nil_tm _ _)
      have HE := Lib.hid (And.intro hB hT)
      clear hB hT
      clear hbx2
      go_wp2_with fail
      refine bodyPost_ret (v := .tuple #[.agg #[.int .i64 0, .int .i64 0, .slice none 0 0, .slice none 0 0], .bool false]) ?_ rfl ⟨_, rfl, TmV.mono HE.out.2 (fun _ _ => trivial), HE.out.1⟩
      simp [results, Tryz.results38, go_sem, r0, r1, r2, r3]
    | true =>
      by_cases h7 : oo = 7
      · subst h7
        have hl4 : lk ≤ 4 := by rw [← HLL.out]; exact right_len HRT.out
        have HBX2 := Lib.hid hbx2
        have hcw := TmC.below hbx2.1 _ _ _ _ _ HC.out
        have hew := TmC.below hbx2.1 _ _ _ _ _ HE0.out
        have hput := rput_any ks (.mk o' m' d' ls) K lk ck _ _ (.agg #[.int .i64 oo', .int .i64 mm', .slice A' la' ca', .slice K' lk' ck']) w2 HLL.out (tmsb_of hcw HLL.out) hlc hcm (by omega) ⟨_, _, _, _, rfl, hew⟩ (fun g => g < w.heap.size) (fun g h => h.2) (fun g h => h.2)
        have HPUT := Lib.hid hput
        have hge := hbx2.2.2.2.2
        clear hput hcw hew hbx2 z0 z1 z2 z3 f0 f1 f2 f3
        go_wp2_with fail
        refine HPUT.out.mono ?_
        rintro e w3 ⟨Ak, ck3, cs3, rfl, hown, hq3, hb3⟩
        have hbx3 := HBX2.out.below hb3
        obtain ⟨A4, c4, e4, hterm⟩ := own_term (W := w3) (o := 7) (m := 0) (by unfold I64; omega) (by unfold I64; omega) hown hq3 rfl (fun g => g ≠ w.heap.size + 1 + 1) (fun g hg => by have hg : g < w.heap.size := hg; omega) (fun g h1 _ => by omega)
        cases e4
        have hpl : (putF ks (.mk o' m' d' ls)).length = lk + 1 := by rw [putF_len, HLL.out]
        rw [hpl] at hterm ⊢
        obtain ⟨w4, hw4⟩ : ∃ y, w3.alloc (.cells #[.int .i64 7, .int .i64 0, .slice none 0 0, .slice Ak (lk + 1) ck3] 57) = y := ⟨_, rfl⟩
        have hb4 : Below w3.heap.size w3 w4 := by rw [← hw4]; exact below_new _ _
        have hn4 : w4.heap[w3.heap.size]? = some (.cells #[.int .i64 7, .int .i64 0, .slice none 0 0, .slice Ak (lk + 1) ck3] 57) := by rw [← hw4]; exact heap_new_ _ _
        have hz4 : w3.heap.size < w4.heap.size := by rw [← hw4]; simp
        have hbx4 := hbx3.below hb4
        have hk4 := TmC.below hb4 _ _ _ _ _ hterm
        have hr4 := rright_any (pow0 (.mk 7 m d ks) (.mk o' m' d' ls)) _ (.agg #[.int .i64 7, .int .i64 0, .slice none 0 0, .slice Ak (lk + 1) ck3]) w4 ⟨_, _, _, _, rfl, hk4⟩
        have p0 : w4.cell? ⟨w3.heap.size, 0, none⟩ = some (.int .i64 7) := by rw [Lib.cell_of_heap hn4]; rfl
        have p1 : w4.cell? ⟨w3.heap.size, 1, none⟩ = some (.int .i64 0) := by rw [Lib.cell_of_heap hn4]; rfl
        have p2 : w4.cell? ⟨w3.heap.size, 2, none⟩ = some (.slice none 0 0) := by rw [Lib.cell_of_heap hn4]; rfl
        have p3 : w4.cell? ⟨w3.heap.size, 3, none⟩ = some (.slice Ak (lk + 1) ck3) := by rw [Lib.cell_of_heap hn4]; rfl
        obtain ⟨q, hq⟩ : ∃ y, rightF (pow0 (.mk 7 m d ks) (.mk o' m' d' ls)) 0 = y := ⟨_, rfl⟩
        rw [hq] at hr4
        have HR4 := Lib.hid hr4
        have HBX4 := Lib.hid hbx4
        have HK4 := Lib.hid hk4
        have HN4 := Lib.hid hn4
        have HZ4 := Lib.hid hz4
        have HQ := Lib.hid hq
        have HPL := Lib.hid hpl
        clear hr4 hbx4 hk4 hn4 hz4 hq hpl hterm hown hq3 hb3 hbx3 hb4 HPUT a0 a1 a2 a3 b0 b1 b2 b3 hge HC HE0 HBX2
        go_wp2_with fail
        clear hw4
        refine HR4.out.mono ?_
        rintro e w8 ⟨rfl, hb8⟩
        have hbx8 := HBX4.out.below hb8
        have hn8 := (hb8.block _ HZ4.out).trans HN4.out
        have hy8 := TmC.below hb8 _ _ _ _ _ HK4.out
        obtain ⟨z0, z1, z2, z3, f0, f1, f2, f3⟩ := hbx8.res
        have hpow : powF (.mk 7 m d ks) (.mk o' m' d' ls) = if rightF (pow0 (.mk 7 m d ks) (.mk o' m' d' ls)) 0 = true then some (pow0 (.mk 7 m d ks) (.mk o' m' d' ls)) else none := by unfold powF; rw [if_pos ⟨HRT.out, HRX.out, rfl⟩]
        cases q with
        | true =>
          have eR : some (pow0 (.mk 7 m d ks) (.mk o' m' d' ls)) = R := by rw [← HR.out, hpow]; exact (if_pos HQ.out).symm
          subst eR
          obtain ⟨r0, r1, r2, r3, hB, hT⟩ := res_end2 (w := w) (b := w.heap.size + 1 + 1) (S := fun g => g ≠ w.heap.size + 1 + 1) (by omega) hbx8.1 hbx8.2.2.2.1 (fun g hg => hg) hy8
          have HE := Lib.hid (And.intro hB hT)
          have p0 : w8.cell? ⟨w3.heap.size, 0, none⟩ = some (.int .i64 7) := by rw [Lib.cell_of_heap hn8]; rfl
          have p1 : w8.cell? ⟨w3.heap.size, 1, none⟩ = some (.int .i64 0) := by rw [Lib.cell_of_heap hn8]; rfl
          have p2 : w8.cell? ⟨w3.heap.size, 2, none⟩ = some (.slice none 0 0) := by rw [Lib.cell_of_heap hn8]; rfl
          have p3 : w8.cell? ⟨w3.heap.size, 3, none⟩ = some (.slice Ak (lk + 1) ck3) := by rw [Lib.cell_of_heap hn8]; rfl
          clear hB hT hbx8 hn8 hy8 hb8 HR4 HBX4 HN4 HK4 HQ HR hpow
          go_wp2_with fail
          refine bodyPost_ret (v := .tuple #[.agg #[.int .i64 7, .int .i64 0, .slice none 0 0, .slice Ak (lk + 1) ck3], .bool true]) ?_ rfl ⟨_, rfl, TmV.mono HE.out.2 (fun _ _ => trivial), HE.out.1⟩
          simp [results, Tryz.results38, go_sem, r0, r1, r2, r3]
        | false =>
          have eR : none = R := by rw [← HR.out, hpow]; exact (if_neg (by rw [HQ.out]; simp)).symm
          subst eR
          obtain ⟨r0, r1, r2, r3, hB, hT⟩ := res_end2 (w := w) (b := w.heap.size + 1 + 1) (S := fun g => g ≠ w.heap.size + 1 + 1) (by omega) hbx8.1 hbx8.2.2.2.1 (fun g hg => hg) (nil_tm _ _)
          have HE := Lib.hid (And.intro hB hT)
          clear hB hT hbx8 hn8 hy8 hb8 HR4 HBX4 HN4 HK4 HQ HR hpow
          go_wp2_with fail
          refine bodyPost_ret (v := .tuple #[.agg #[.int .i64 0, .int .i64 0, .slice none 0 0, .slice none 0 0], .bool false]) ?_ rfl ⟨_, rfl, TmV.mono HE.out.2 (fun _ _ => trivial), HE.out.1⟩
          simp [results, Tryz.results38, go_sem, r0, r1, r2, r3]
      · have hb7 : (oo == 7) = false := by simpa using h7
        have hn7 : (oo != 7) = true := by simpa using h7
        have eR : none = R := by rw [← HR.out]; unfold powF; rw [if_neg (fun h => h7 h.2.2)]
        subst eR
        obtain ⟨r0, r1, r2, r3, hB, hT⟩ := res_end2 (w := w) (b := w.heap.size + 1 + 1) (S := fun g => g ≠ w.heap.size + 1 + 1) (by omega) hbx2.1 hbx2.2.2.2.1 (fun g hg => hg) (nil_tm _ _)
        have HE := Lib.hid (And.intro hB hT)
        clear hB hT
        clear hbx2
        go_wp2_with fail
        refine bodyPost_ret (v := .tuple #[.agg #[.int .i64 0, .int .i64 0, .slice none 0 0, .slice none 0 0], .bool false]) ?_ rfl ⟨_, rfl, TmV.mono HE.out.2 (fun _ _ => trivial), HE.out.1⟩
        simp [results, Tryz.results38, go_sem, r0, r1, r2, r3]
end Go.Proofs.YtfmdmahlljbbmaaGreatDoor.tmc
