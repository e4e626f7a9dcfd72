/- A term's number, if the vault has it. -/
import Derived.Test.YtfmdmahlljbbmaaGreatDoorVf
import Derived.Lib.QuietBelow
import Derived.BigQuiet
namespace Go.Proofs.YtfmdmahlljbbmaaGreatDoor.vtc
open Go.RowKit Go.Proofs.YtfmdmahlljbbmaaGreatDoor.tlvc Go.Proofs.YtfmdmahlljbbmaaGreatDoor.tmc
set_option linter.unusedVariables false
theorem Tryz.infoInt : (Tryz.prog.info? 3).map (fun i => (i.zero, i.size, i.bytes)) = some (some (.int .i64 0), 1, 8) := by kernel_rfl
/-- One integer more. -/
theorem app_int (w : World) (base : Nat) (v : Value) (n : Nat) (cs : List Value) (hown : w.ownsRow base 3 1 v n cs) (x : Int) (hx : I64 x) (hn : n + 1 ≤ 1000000) (hbase : base ≤ w.heap.size) :
    ∃ v' w', (Builtin.append_ #[78, 78] 78 #[v, .slice (some ⟨w.heap.size, 0, none⟩) 1 1]).run Tryz.prog (w.alloc (.cells #[.int .i64 x] 3)) = .ok v' w' ∧ w'.ownsRow base 3 1 v' (n + 1) (cs ++ ivals [x]) ∧ (w.alloc (.cells #[.int .i64 x] 3)).grownBy w' v.ownBlock ∧ (v'.ownBlock = v.ownBlock ∨ ∃ g', v'.ownBlock = some g' ∧ w.heap.size ≤ g') := by
  obtain ⟨i0, hi, hz0, hz1, hz2⟩ := info_parts Tryz.infoInt
  have hnew := heap_new_ w (.cells #[.int .i64 x] 3)
  obtain ⟨v', w', h1, h2, h3, _, h5⟩ := app_gen (P := Tryz.prog) (w.alloc (.cells #[.int .i64 x] 3)) base 78 78 3 i0 (.int .i64 0) 1 8 Tryz.underlying78 hi hz0 hz1 hz2 rfl (by decide) v n cs (own_below hown (below_new _ _)) ⟨w.heap.size, 0, none⟩ 1 1 (ivals [x]) (by rw [ivals_length]; rfl)
    (fun j u hu => by
      have hj := (List.getElem?_eq_some_iff.1 hu).1
      rw [ivals_length] at hj
      obtain rfl : j = 0 := by simpa using hj
      rw [Addr.add_lit, Nat.zero_add, Lib.cell_of_heap hnew, ← hu]
      rfl) (ivals_one [x]) (by unfold maxLen; omega) (by omega) (by simp; omega)
  refine ⟨v', w', h1, h2, h3, ?_⟩
  rcases h5 with h | ⟨g', h, hg⟩
  · exact .inl h
  · exact .inr ⟨g', h, by simp at hg; omega⟩
theorem app_int_below {w w' : World} {base : Nat} {v : Value} {n : Nat} {cs : List Value} {x : Int} (hown : w.ownsRow base 3 1 v n cs) (hbase : base ≤ w.heap.size) (hg : (w.alloc (.cells #[.int .i64 x] 3)).grownBy w' v.ownBlock) : Below base w w' :=
  ((below_new w _).mono hbase).grown hg (by simp; omega) fun j hj => (hown.lt j hj).1
def NumsAt (t : Tm) : Prop := ∀ (S B : Nat → Prop) (vb mb : Nat) (ob : Option Nat) (L : List Tm) (v : Value) (w : World), Vlt S w vb mb ob L → TmV B w t v → txc.Tab w.heap.size w →
    Calls Tryz.prog 44 #[.pointer (some ⟨vb, 0, none⟩), v] w fun e w' => e = .returned (.tuple #[.int .i64 (numI t L), .bool (findV t L).isSome]) ∧ Below w.heap.size w w'
theorem num_app {w0 wr wn w2 : World} {v : Value} {i j : Nat} {L ks : List Tm} {k : Tm} (h1 : wr.ownsRow w0.heap.size 3 1 v i (ivals (kidsN L (ks.take i)))) (h2 : Below w0.heap.size w0 wn) (hnew : Below wr.heap.size wr wn) (hb2 : Below wn.heap.size wn w2) (hki : ks[i]? = some k) (hfk : findV k L = some j) (hi : i ≤ 10000) (hall : ∀ x ∈ ks.take i, x ∈ L) (hk : k ∈ L) (hj : j < 4096) :
    ∃ v' w', (Builtin.append_ #[78, 78] 78 #[v, .slice (some ⟨w2.heap.size, 0, none⟩) 1 1]).run Tryz.prog (w2.alloc (.cells #[.int .i64 j] 3)) = .ok v' w' ∧ w'.ownsRow w0.heap.size 3 1 v' (i + 1) (ivals (kidsN L (ks.take (i + 1)))) ∧ Below w0.heap.size w0 w' ∧ ∀ x ∈ ks.take (i + 1), x ∈ L := by
  have ho := own_below (own_below h1 hnew) hb2
  have hsz := Nat.le_trans h2.size hb2.size
  obtain ⟨v7, w7, hrun, g1, g2, _⟩ := app_int w2 w0.heap.size v i _ ho j (by unfold I64; omega) (by omega) hsz
  have hkn : ivals (kidsN L (ks.take i)) ++ ivals [(j : Int)] = ivals (kidsN L (ks.take (i + 1))) := by
    rw [kidsN_at L ks hki, hfk, ivals_append]
    rfl
  rw [hkn] at g1
  refine ⟨v7, w7, hrun, g1, (h2.trans (hb2.mono h2.size)).trans (app_int_below ho hsz g2), fun x hx => ?_⟩
  obtain ⟨hi9, e9⟩ := List.getElem?_eq_some_iff.1 hki
  rw [List.take_succ_eq_append_getElem hi9, List.mem_append, List.mem_singleton] at hx
  rcases hx with hx | hx
  · exact hall x hx
  · rw [hx, e9]; exact hk
set_option maxRecDepth 100000 in
set_option maxHeartbeats 16000000 in
theorem num_step (o m : Int) (d : List Int) (ks : List Tm) (hk : ∀ k ∈ ks, NumsAt k) (hdl : d.length ≤ 8192) (hn : ks.length ≤ 10000) : NumsAt (.mk o m d ks) := by
  intro S B vb mb ob L v w hV hv ht
  obtain ⟨c0, c1, c2, c3, rfl, hc⟩ := hv
  obtain ⟨oo, mm, A, la, ca, K, n, ck, rfl, rfl, rfl, rfl⟩ := hc.shape
  have hc0 := hc
  obtain ⟨hlen, hlc, hck9, _⟩ := kidv hc
  rw [hlen] at hn
  unfold TmC at hc
  obtain ⟨e0, ho, e1, hm, ⟨A', la', ca', e2, hA1, hA2, hA3, hA4⟩, _⟩ := hc
  cases e0; cases e1; cases e2
  have hdla : d.length = la := hA3.1
  obtain ⟨W0, hW0⟩ : ∃ x, w.alloc (.cells #[.int .i64 o, .int .i64 m, .slice A la ca, .slice K n ck] 57) = x := ⟨_, rfl⟩
  have hz0 : W0.heap.size = w.heap.size + 1 := by rw [← hW0]; simp
  have p0 : W0.heap[w.heap.size]? = some (.cells #[.int .i64 o, .int .i64 m, .slice A la ca, .slice K n ck] 57) := by rw [← hW0]; exact heap_new_ _ _
  have hb0 : Below w.heap.size w W0 := by rw [← hW0]; exact below_new _ _
  have hbox : ∀ W, Below W0.heap.size W0 W → W.cell? ⟨w.heap.size, 0, none⟩ = some (.int .i64 o) ∧ W.cell? ⟨w.heap.size, 1, none⟩ = some (.int .i64 m) ∧ W.cell? ⟨w.heap.size, 2, none⟩ = some (.slice A la ca) ∧ W.cell? ⟨w.heap.size, 3, none⟩ = some (.slice K n ck) := fun W hW => by
    have h := (hW.block w.heap.size (by omega)).trans p0
    exact ⟨(Lib.cell_of_heap h _).trans rfl, (Lib.cell_of_heap h _).trans rfl, (Lib.cell_of_heap h _).trans rfl, (Lib.cell_of_heap h _).trans rfl⟩
  have f3 := (hbox W0 (Below.refl _ _)).2.2.2
  have hV0 := hV.below hb0
  have ht0 : txc.Tab W0.heap.size W0 := (ht.on hb0).mono hb0.size
  have hkid := fun W (hW : Below w.heap.size w W) => (kidv (TmC.below hW _ _ _ _ _ hc0)).2.2.2
  have HKID := Lib.hid hkid
  have HIH := Lib.hid hk
  have HLEN := Lib.hid (And.intro hlen hdla)
  have HB0 := Lib.hid hb0
  have HV0 := Lib.hid hV0
  have HT0 := Lib.hid ht0
  have HBOX := Lib.hid hbox
  have HA := Lib.hid (And.intro hA1 (And.intro hA2 hA3))
  have HC0 := Lib.hid hc0
  have HZ0 := Lib.hid hz0
  clear hkid hk hlen hdla hb0 hV hV0 ht ht0 hbox hA3 hA4 hc0 p0 hz0 hA1 hA2
  obtain ⟨is, his⟩ : ∃ x, (findV (.mk o m d ks) L).isSome = x := ⟨_, rfl⟩
  obtain ⟨NI, hNI⟩ : ∃ x, numI (.mk o m d ks) L = x := ⟨_, rfl⟩
  rw [his, hNI]
  have HRES := Lib.hid (And.intro his hNI)
  clear his hNI
  go_enter Tryz.func44, Tryz.ntmps44
  go_wp2_with fail
  go_loopg [6, 16] (n + 1) (fun gk s6 s16 wx => ∃ (i : Nat) (vks : Value), s6 = vks ∧ s16 = .int .i64 i ∧ i ≤ n ∧ n - i < gk ∧ Hid (wx.ownsRow W0.heap.size 3 1 vks i (ivals (kidsN L (ks.take i))) ∧ Below W0.heap.size W0 wx ∧ ∀ k ∈ ks.take i, k ∈ L))
  case atStart => exact ⟨0, _, rfl, rfl, by omega, by omega, Lib.hid ⟨by rw [List.take_zero]; exact World.ownsRow_nil _ _ _ _, Below.refl _ _, fun k hk => by simp at hk⟩⟩
  case round =>
    obtain ⟨i, vks, hv9, rfl, hi, hgk, HI⟩ := hrel
    obtain rfl := hv9.symm
    by_cases hlt : i < n
    · have hltz : (i : Int) < (n : Int) := by omega
      obtain ⟨gk', rfl⟩ : ∃ g', gk = g' + 1 := ⟨gk - 1, by omega⟩
      have HN12 := Lib.hid (And.intro (show i + 1 ≤ n from hlt) (show n - (i + 1) < gk' by omega))
      have hbw : Below w.heap.size w wr := HB0.out.trans (HI.out.2.1.mono HB0.out.size)
      obtain ⟨k, g, off, d0, d1, d2, d3, hki, rfl, e0, e1, e2, e3, hd⟩ := HKID.out wr hbw i hlt
      obtain ⟨to, tm, tA, tla, tca, tK, tlk, tck, q0, q1, q2, q3⟩ := hd.shape
      subst q0 q1 q2 q3
      have hnew : Below wr.heap.size wr (wr.alloc (.cells #[.int .i64 to, .int .i64 tm, .slice tA tla tca, .slice tK tlk tck] 57)) := below_new _ _
      have hV1 := (HV0.out.below HI.out.2.1).below hnew
      have hbx : Below W0.heap.size W0 (wr.alloc (.cells #[.int .i64 to, .int .i64 tm, .slice tA tla tca, .slice tK tlk tck] 57)) := HI.out.2.1.trans (hnew.mono HI.out.2.1.size)
      have C1 := HIH.out k (List.mem_of_getElem? hki) S B vb mb ob L (.agg #[.int .i64 to, .int .i64 tm, .slice tA tla tca, .slice tK tlk tck]) (wr.alloc (.cells #[.int .i64 to, .int .i64 tm, .slice tA tla tca, .slice tK tlk tck] 57)) hV1 ⟨_, _, _, _, rfl, TmC.below hnew _ _ _ _ _ hd⟩ ((HT0.out.on hbx).mono hbx.size)
      have hmem : k ∈ ks := List.mem_of_getElem? hki
      have HKI := Lib.hid hki
      have HBX := Lib.hid hbx
      have HNEW := Lib.hid hnew
      cases hfk : findV k L with
      | none =>
        rw [hfk, numI_none hfk] at C1
        have HM := Lib.hid (kids_missing (o := o) (m := m) (d := d) HV0.out.closed hmem (findV_none.1 hfk))
        have HC1 := Lib.hid C1
        clear C1 hfk hmem hki hd hV1 hbx hnew hgk hbw
        go_wp2_with (go_at_call 44; refine HC1.out.mono ?_; rintro e w2 ⟨rfl, hb2⟩)
        have HE := Lib.hid (HB0.out.trans ((HBX.out.trans (hb2.mono HBX.out.size)).mono HB0.out.size))
        clear HC1 hb2 e0 e1 e2 e3
        go_wp2
        go_ret2
        exact ⟨by rw [← HRES.out.1, ← HRES.out.2, numI_none HM.out, HM.out]; rfl, HE.out⟩
      | some j =>
        rw [hfk, numI_some hfk] at C1
        have hj := findV_lt hfk
        have hL := HV0.out.len
        have hkm : k ∈ L := List.mem_of_getElem? (findV_some hfk).1
        have HC1 := Lib.hid C1
        have HFK := Lib.hid (And.intro hfk (And.intro hkm (show j < 4096 by omega)))
        clear C1 hfk hmem hki hd hV1 hbx hnew hgk hbw hj hL hkm
        have hstep := fun (w2 : World) (hb2 : Below (wr.alloc (.cells #[.int .i64 to, .int .i64 tm, .slice tA tla tca, .slice tK tlk tck] 57)).heap.size (wr.alloc (.cells #[.int .i64 to, .int .i64 tm, .slice tA tla tca, .slice tK tlk tck] 57)) w2) => num_app HI.out.1 HBX.out HNEW.out hb2 HKI.out HFK.out.1 (by omega) HI.out.2.2 HFK.out.2.1 HFK.out.2.2
        have HS := Lib.hid hstep
        clear hstep HI HFK HKI HBX HNEW
        go_wp2_with (first | (at_builtin; refine wpl_append rfl (.tmp 28) (.tmp 30) 78 rfl _ _ _ rfl rfl hrun ?_) | (go_at_call 44; refine HC1.out.mono ?_; rintro e w2 ⟨rfl, hb2⟩; obtain ⟨v7, w7, hrun, hI2⟩ := HS.out w2 hb2; have HI2 := Lib.hid hI2; clear hI2 hb2))
        clear hrun HC1 HS e0 e1 e2 e3
        go_wp2
        go_roundg gk'
        case measure => omega
        case rel => exact ⟨i + 1, v7, rfl, by go_num, HN12.out.1, HN12.out.2, HI2⟩
    · have hltz : ¬ (i : Int) < (n : Int) := by omega
      obtain rfl : i = n := by omega
      have hI := HI.out
      rw [List.take_of_length_le (by rw [HLEN.out.1]; exact Nat.le_refl _)] at hI
      obtain ⟨A6, c6, rfl, hl6, hm6, _⟩ := own_shape hI.1
      have hV1 := HV0.out.below hI.2.1
      obtain ⟨A9, c9, x0, x1, hl9, hm9, _⟩ := hV1.cells
      have hins : Ins wr A6 i (kidsN L ks) := Ins.own hI.1 (kidsN_fit (by have := HV0.out.len; omega))
      have hfit := HA.out.2.2.2.1
      have hkl : (keyT L (.mk o m d ks)).length ≤ 1000000 := by
        have := keyF_len (o := o) (m := m) (ks := kidsN L ks) (d := d) ho hm (kidsN_fit (by have := HV0.out.len; omega))
        rw [kidsN_len] at this
        have := HLEN.out.1
        show (keyF o m (kidsN L ks) d).length ≤ 1000000
        omega
      have hlook : ∀ (q : Nat) (os : Array Obj), (Instr.lookup 71 (.map (some mb)) (.string (strOfNums (keyT L (.mk o m d ks)))) true).run Tryz.prog (Sort.grow (redrawn wr q) os) = .ok (.tuple #[.int .i64 (((findV (.mk o m d ks) L).getD 0 : Nat) : Int), .bool (findV (.mk o m d ks) L).isSome]) (Sort.grow (redrawn wr q) os) := fun q os => (hV1.below (below_regrown wr q os)).look hI.2.2 hfit hkl
      have b4 : ∀ (q : Nat) (os : Array Obj), (Sort.grow (redrawn wr q) os).cell? ⟨w.heap.size, 0, none⟩ = some (.int .i64 o) ∧ (Sort.grow (redrawn wr q) os).cell? ⟨w.heap.size, 1, none⟩ = some (.int .i64 m) ∧ (Sort.grow (redrawn wr q) os).cell? ⟨w.heap.size, 2, none⟩ = some (.slice A la ca) ∧ (Sort.grow (redrawn wr q) os).cell? ⟨w.heap.size, 3, none⟩ = some (.slice K i ck) := fun q os => HBOX.out _ (hI.2.1.trans ((below_regrown wr q os).mono hI.2.1.size))
      have y0 := fun q os => (b4 q os).1
      have y1 := fun q os => (b4 q os).2.1
      have y2 := fun q os => (b4 q os).2.2.1
      have y3 := fun q os => (b4 q os).2.2.2
      have x1 : ∀ (q : Nat) (os : Array Obj), (Sort.grow (redrawn wr q) os).cell? ⟨vb, 1, none⟩ = some (.map (some mb)) := fun q os => cell_regrown x1 q os
      have hbw : Below w.heap.size w wr := HB0.out.trans (hI.2.1.mono HB0.out.size)
      have hwr := fun (q : Nat) (os : Array Obj) => written_any o m ho hm A la ca d (.slice K i ck) A6 i c6 (kidsN L ks) (Sort.grow (redrawn wr q) os) ((HA.out.2.2.below hbw).below (below_regrown wr q os)) HA.out.1 HA.out.2.1 (hins.below (below_regrown wr q os)) hl6 hm6 (by omega) (by have := HLEN.out.2; omega) (((HT0.out.on hI.2.1).mono hI.2.1.size).on (below_regrown wr q os) |>.mono (below_regrown wr q os).size) ⟨K, i, ck, rfl⟩
      have HW := Lib.hid hwr
      have HE := Lib.hid hbw
      obtain ⟨N, hN⟩ : ∃ x, (((findV (.mk o m d ks) L).getD 0 : Nat) : Int) = x := ⟨_, rfl⟩
      have his := HRES.out.1
      have hNI := HRES.out.2
      have hgo : is = true → NI = N := fun h => by
        rw [h] at his
        obtain ⟨j, hj⟩ := Option.isSome_iff_exists.1 his
        rw [hj] at hN
        rw [numI_some hj] at hNI
        rw [← hNI, ← hN]
        rfl
      have hgo2 : is = false → NI = -1 := fun h => by
        rw [h] at his
        cases e : findV (.mk o m d ks) L with
        | none => rw [numI_none e] at hNI; exact hNI.symm
        | some j => rw [e] at his; cases his
      rw [hN, his] at hlook
      have hkey : keyT L (.mk o m d ks) = keyF o m (kidsN L ks) d := rfl
      rw [hkey] at hlook
      have HLK := Lib.hid hlook
      have HG := Lib.hid (And.intro hgo hgo2)
      clear b4 hwr hlook hkl hfit hins hbw hI HI hV1 x0 hl9 hm9 hN his hNI hgo hgo2 hkey hl6 hm6 HRES
      have hlook := HLK.out
      go_wp2_with fail
      refine wp_region_quiet_below (by kernel_rfl) (by kernel_rfl) ?_
      repeat (go_big_quiet_step ((first | (go_at_call 62; refine Calls.regrown_of (HW.out _ _)))))
      refine wpQuiet_nil ?_
      intro _ hw'
      obtain ⟨⟨nq, osq⟩, hw''⟩ := hw'
      subst hw''
      clear y0 y1 y2 y3 x1 hlook HW HLK
      cases is with
      | true =>
        have e := HG.out.1 rfl
        have HE2 := Lib.hid (HE.out.trans ((below_regrown wr nq osq).mono HE.out.size))
        clear HE HG
        subst e
        go_wp2
        go_ret2
        exact ⟨rfl, HE2.out⟩
      | false =>
        have e := HG.out.2 rfl
        have HE2 := Lib.hid (HE.out.trans ((below_regrown wr nq osq).mono HE.out.size))
        clear HE HG
        subst e
        go_wp2
        go_ret2
        exact ⟨rfl, HE2.out⟩
theorem nums_all : ∀ (N : Nat) (t : Tm), szT t ≤ N → N ≤ 10000 → rightF t 0 = true → NumsAt t
  | 0, .mk _ _ _ ks, h, _, _ => by unfold szT at h; omega
  | N + 1, .mk o m d ks, h, hN, hr => by
    unfold szT at h
    refine num_step o m d ks (fun k hk => nums_all N k (by have := szTs_mem hk; omega) (by omega) (right_kids hr hk)) ?_ ?_
    · exact (alone_data (right_mk.1 hr).2.1).1
    · have := len_szTs ks
      omega
theorem num_any (t : Tm) (h : szT t ≤ 10000) (hr : rightF t 0 = true) : NumsAt t := nums_all 10000 t h (Nat.le_refl _) hr
end Go.Proofs.YtfmdmahlljbbmaaGreatDoor.vtc
