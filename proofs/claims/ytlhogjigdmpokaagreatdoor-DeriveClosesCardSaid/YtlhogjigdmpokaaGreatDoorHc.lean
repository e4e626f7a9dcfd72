/- The document's without: the walk. -/
import Derived.Test.YtlhogjigdmpokaaGreatDoorHb
namespace Go.Proofs.YtlhogjigdmpokaaGreatDoor.vtc
open Go.RowKit Go.Proofs.YtlhogjigdmpokaaGreatDoor.tlvc Go.Proofs.YtlhogjigdmpokaaGreatDoor.tmc Go.Proofs.YtlhogjigdmpokaaGreatDoor.rfc
set_option linter.unusedVariables false
def WoPost (l less : List Tm) (w : World) (e : Ending) (w' : World) : Prop := Below w.heap.size w w' ∧ ((∃ r A c, withoutF l less = some r ∧ e = .returned (.tuple #[.slice A r.length c, .bool true]) ∧ OutT w.heap.size A r.length c r w') ∨ (withoutF l less = none ∧ e = .returned (.tuple #[.slice none 0 0, .bool false])))
theorem OutT.base {base base' : Nat} {A : Option Addr} {n c : Nat} {l : List Tm} {w : World} (h : OutT base A n c l w) (hb : base' ≤ base) : OutT base' A n c l w := by
  obtain ⟨cs, h1, h2⟩ := h.row
  exact ⟨h.len, cs, own_base h1 hb, h2⟩
theorem take_one {less : List Tm} {i m : Nat} (hm : less.length = m) (hi : i < m) : less.take (i + 1) = less.take i ++ [less.getD i default] := by
  rw [List.take_succ_eq_append_getElem (by omega), List.getD_eq_getElem?_getD, List.getElem?_eq_getElem (by omega), Option.getD_some]
theorem get_d {l : List Tm} {k n : Nat} (hl : l.length = n) (hk : k < n) : l[k]? = some (l.getD k default) := by
  rw [List.getD_eq_getElem?_getD, List.getElem?_eq_getElem (by omega), Option.getD_some]
set_option maxRecDepth 100000 in
set_option maxHeartbeats 16000000 in
theorem without_any (l less : List Tm) (A : Option Addr) (n c : Nat) (cs : List Value) (B : Option Addr) (m d : Nat) (ds : List Value) (w : World) (hA : HasT A n l cs w) (hB : HasT B m less ds w) (hn : n ≤ 100000) (hnc : n ≤ c) (hcm : c ≤ maxLen) (hmd : m ≤ d) (hdm : d ≤ maxLen) :
    Calls Tryz.prog 95 #[.slice A n c, .slice B m d] w (WoPost l less w) := by
  obtain ⟨A1, c1, W1, hrun1, ho1, hb1⟩ := run_out w c hA hn
  have hl0 := hA.len
  have hml := hB.len
  have h9 : c ≤ 9223372036854775807 ∧ d ≤ 9223372036854775807 := by unfold maxLen at hcm hdm; omega
  obtain ⟨hc9, hd9⟩ := h9
  have H0 := Lib.hid (And.intro hB (And.intro hml (And.intro ho1 hb1)))
  have HN0 := Lib.hid (And.intro hcm (And.intro hdm hnc))
  clear hA hB ho1 hb1 hl0 hml hcm hdm
  go_enter Tryz.func95, Tryz.ntmps95
  go_wp2_with (at_builtin; refine wpl_append rfl (.tmp 10) (.tmp 11) 22 rfl _ _ _ rfl rfl hrun1 ?_)
  clear hrun1
  go_loopg [6, 7] (m + 1) (fun gk s6 s7 wx => ∃ (i : Nat) (Ax : Option Addr) (nx cx : Nat), s6 = .slice Ax nx cx ∧ s7 = .int .i64 (i : Nat) ∧ i ≤ m ∧ m - i < gk ∧ nx ≤ 100000 ∧ Hid (∃ lx, withoutF l (less.take i) = some lx ∧ OutT w.heap.size Ax nx cx lx wx) ∧ Hid (Below w.heap.size w wx))
  case atStart => exact ⟨0, A1, n, c1, rfl, rfl, by omega, by omega, hn, Lib.hid ⟨l, without_nil l, H0.out.2.2.1⟩, Lib.hid H0.out.2.2.2⟩
  case round =>
    obtain ⟨i, Ax, nx, cx, rfl, rfl, hi, hgk, hnx, HO, HW⟩ := hrel
    obtain ⟨lx, hlx, hox⟩ := HO.out
    obtain ⟨hxc, hxm, csx, hx⟩ := hox.has
    have hx9 : cx ≤ 9223372036854775807 := by unfold maxLen at hxm; omega
    by_cases hlt : i < m
    · have hltz : (i : Int) < (m : Int) := by omega
      obtain ⟨ga, rfl⟩ : ∃ g', gk = g' + 1 := ⟨gk - 1, by omega⟩
      have hwr := H0.out.1.below HW.out
      obtain ⟨x, hxd⟩ : ∃ y, less.getD i default = y := ⟨_, rfl⟩
      have htk := take_one H0.out.2.1 hlt
      rw [hxd] at htk
      have hnext : ∀ j, findV x lx = some j → withoutF l (less.take (i + 1)) = some (lx.eraseIdx j) := fun j hj => by rw [htk, without_snoc hlx, without_one hj]
      have hstop : findV x lx = none → withoutF l less = none := fun hj => by
        have h1 : withoutF l (less.take (i + 1)) = none := by rw [htk, without_snoc hlx, without_gone hj]
        have h2 := without_stop (x := x) (more := less.drop (i + 1)) h1
        rwa [List.take_append_drop] at h2
      have HF := Lib.hid (And.intro hnext (And.intro hstop (And.intro (show i + 1 ≤ m from hlt) (show m - (i + 1) < ga by omega))))
      have HX := Lib.hid (And.intro hx (And.intro hxm hxc))
      have HB9 := Lib.hid (And.intro hwr hxd)
      have HW9 := HW
      clear hx hxm hxc hwr hxd hnext hstop hlx hox HO hgk htk
      go_wp2_with fail
      go_loopg [8, 9] (nx + 1) (fun gk s8 s9 wx => ∃ (k : Nat), s9 = .int .i64 (k : Nat) ∧ k ≤ nx ∧ ((s8 = .int .i64 (-1) ∧ nx - k < gk ∧ Hid (∀ j, j < k → lx[j]? ≠ some x)) ∨ ∃ (j : Nat), s8 = .int .i64 (j : Nat) ∧ k = j + 1 ∧ Hid (findV x lx = some j)) ∧ Hid (Below wr.heap.size wr wx))
      case atStart => exact ⟨0, rfl, by omega, .inl ⟨rfl, by omega, Lib.hid fun j hj => by omega⟩, Lib.hid (Below.refl _ _)⟩
      case round =>
        obtain ⟨k, rfl, hk, hat, HV⟩ := hrel
        rcases hat with ⟨rfl, hgk, HNO⟩ | ⟨j, rfl, rfl, HYES⟩
        · have hm1 : ((-1 : Int) < 0) := by omega
          by_cases hkl : k < nx
          · have hkz : (k : Int) < (nx : Int) := by omega
            obtain ⟨gk', rfl⟩ : ∃ g', gk = g' + 1 := ⟨gk - 1, by omega⟩
            have HN := Lib.hid (And.intro (show k + 1 ≤ nx from hkl) (show nx - (k + 1) < gk' by omega))
            obtain ⟨g, off, d0, d1, d2, d3, rfl, e0, e1, e2, e3, hd⟩ := (HX.out.1.below HV.out).at hkl
            obtain ⟨g', off', b0, b1, b2, b3, rfl, k0, k1, k2, k3, hb⟩ := (HB9.out.1.below HV.out).at hlt
            rw [HB9.out.2] at hb
            obtain ⟨oo, mm, tA, tla, tca, tK, tlk, tck, q0, q1, q2, q3⟩ := hd.shape
            subst q0 q1 q2 q3
            obtain ⟨uo, um, uA, ula, uca, uK, ulk, uck, q0, q1, q2, q3⟩ := hb.shape
            subst q0 q1 q2 q3
            have hgd := get_d HX.out.1.len hkl
            obtain ⟨y, hy⟩ : ∃ z, lx.getD k default = z := ⟨_, rfl⟩
            rw [hy] at hd hgd
            have HSM := Lib.hid fun W (hW : Below wr.heap.size wr W) => tsame_any y x (fun _ => True) (fun _ => True) (.agg #[.int .i64 oo, .int .i64 mm, .slice tA tla tca, .slice tK tlk tck]) (.agg #[.int .i64 uo, .int .i64 um, .slice uA ula uca, .slice uK ulk uck]) W ⟨_, _, _, _, rfl, TmC.below hW _ _ _ _ _ hd⟩ ⟨_, _, _, _, rfl, TmC.below hW _ _ _ _ _ hb⟩
            have f0 := fun q os => cell_regrown e0 q os
            have f1 := fun q os => cell_regrown e1 q os
            have f2 := fun q os => cell_regrown e2 q os
            have f3 := fun q os => cell_regrown e3 q os
            have y0 := fun q os => cell_regrown k0 q os
            have y1 := fun q os => cell_regrown k1 q os
            have y2 := fun q os => cell_regrown k2 q os
            have y3 := fun q os => cell_regrown k3 q os
            have hyes : alikeB y x = true → findV x lx = some k := fun e => findV_first (by rw [hgd, alike_iff.1 e]) HNO.out
            have hnot : alikeB y x = false → ∀ j, j < k + 1 → lx[j]? ≠ some x := fun e j hj e9 => by
              rcases Nat.lt_or_ge j k with h | h
              · exact HNO.out j h e9
              · obtain rfl : j = k := by omega
                rw [hgd] at e9
                have := alike_iff.2 (Option.some.inj e9)
                rw [e] at this
                cases this
            have HY := Lib.hid (And.intro hyes hnot)
            clear hyes hnot hd hb e0 e1 e2 e3 k0 k1 k2 k3 hgd hy hgk
            cases hal : alikeB y x
            · have hno := HY.out.2 hal
              have HNO2 := Lib.hid hno
              rw [hal] at HSM
              clear hal hno HNO HY
              go_wp2_with fail
              refine wp_region_quiet_below (by kernel_rfl) (by kernel_rfl) ?_
              repeat (go_big_quiet_step ((go_at_call 74; refine Calls.regrown_of (HSM.out _ (below_regrown _ _ _)))))
              refine wpQuiet_nil ?_
              intro _ hw'
              obtain ⟨⟨nq, osq⟩, hw''⟩ := hw'
              subst hw''
              have HE := Lib.hid (HV.out.trans ((below_regrown wr nq osq).mono HV.out.size))
              clear f0 f1 f2 f3 y0 y1 y2 y3 HSM
              go_wp2
              go_roundg gk'
              case measure => omega
              case rel => exact ⟨k + 1, by go_num, HN.out.1, .inl ⟨rfl, HN.out.2, HNO2⟩, HE⟩
            · have hye := HY.out.1 hal
              have HYE := Lib.hid hye
              rw [hal] at HSM
              clear hal hye HNO HY
              go_wp2_with fail
              refine wp_region_quiet_below (by kernel_rfl) (by kernel_rfl) ?_
              repeat (go_big_quiet_step ((go_at_call 74; refine Calls.regrown_of (HSM.out _ (below_regrown _ _ _)))))
              refine wpQuiet_nil ?_
              intro _ hw'
              obtain ⟨⟨nq, osq⟩, hw''⟩ := hw'
              subst hw''
              have HE := Lib.hid (HV.out.trans ((below_regrown wr nq osq).mono HV.out.size))
              clear f0 f1 f2 f3 y0 y1 y2 y3 HSM
              go_wp2
              go_roundg gk'
              case measure => omega
              case rel => exact ⟨k + 1, by go_num, HN.out.1, .inr ⟨k, rfl, rfl, HYE⟩, HE⟩
          · obtain rfl : nx = k := by omega
            have hkz : ¬ (nx : Int) < (nx : Int) := by omega
            have hres := HF.out.2.1 (findV_nowhere fun j hj => HNO.out j (by rw [HX.out.1.len] at hj; exact hj))
            have HE := Lib.hid (And.intro hres (HW9.out.trans (HV.out.mono HW9.out.size)))
            clear hres hgk
            go_wp2_with fail
            go_ret2
            exact ⟨HE.out.2, .inr ⟨HE.out.1, rfl⟩⟩
        · have hjn : j < nx := by omega
          have hj0 : ¬ ((j : Int) < 0) := by omega
          have hj9 : (j : Int) ≤ (nx : Int) := by omega
          have hnxt := HF.out.1 j HYES.out
          have hxc := HX.out.2.2
          have hw1 : IntKind.i64.wrap ((j : Int) + 1) = (j : Int) + 1 := IntWalk.i64_in _ (by omega)
          have hs1 : (0 : Int) ≤ (j : Int) := by omega
          have hs2 : (j : Int) ≤ (cx : Int) := by omega
          have hs4 : (0 : Int) ≤ (j : Int) + 1 := by omega
          have hs5 : (j : Int) + 1 ≤ (nx : Int) := by omega
          have hs6 : (j : Int) + 1 ≤ (cx : Int) := by omega
          have hs7 : (nx : Int) ≤ (cx : Int) := by omega
          have hxv := HX.out.1.below HV.out
          have hgA := hxv.src (by omega)
          obtain ⟨g, off, rfl, _⟩ := hgA
          have hbd : Below wr.heap.size wr wr.drew := (Below.refl _ _).drew
          obtain ⟨A5, c5, w5, hrunA, hcut⟩ := run_cut wr.drew cx j (hxv.below hbd) hnx hjn
          have HC := Lib.hid hcut
          have HNX := Lib.hid hnxt
          have hwv := HW9.out.trans (HV.out.mono HW9.out.size)
          have HWV := Lib.hid (hwv.trans (hbd.mono hwv.size))
          clear hcut hnxt hxv hbd HX HB9 H0
          by_cases hj1 : j + 1 < nx
          · have hkz : (j : Int) + 1 < (nx : Int) := by omega
            have hcp2 : ¬ ((cx : Int) = (j : Int) + 1) := by omega
            have hcpN : ¬ cx = j + 1 := by omega
            obtain ⟨A6, c6, w6, hrunB, ho6, hb6⟩ := HC.out (some ⟨g, off + (j + 1) * 4, none⟩) (cx - (j + 1)) (fun _ => rfl)
            have HO6 := Lib.hid (And.intro ho6 (HWV.out.trans (hb6.mono HWV.out.size)))
            clear ho6 hb6 HC
            go_wp2_with fail
            go_region_law (first | (refine step_run rfl (.tmp 41) (.tmp 44) 22 rfl _ _ _ (by simp [Act.eval]) (by simp [Act.eval]) hrunA ?_) | (refine step_run rfl (.tmp 45) (.tmp 49) 22 rfl _ _ _ (by simp [Act.eval]) (by simp [Act.eval]) hrunB ?_))
            all_goals
              clear hrunA hrunB
              go_wp2_with fail
              go_roundg ga
              case measure => omega
              case rel => exact ⟨i + 1, A6, nx - 1, c6, rfl, by go_num, HF.out.2.2.1, HF.out.2.2.2, by omega, Lib.hid ⟨_, HNX.out, OutT.base HO6.out.1 HWV.out.size⟩, Lib.hid HO6.out.2⟩
          · obtain rfl : nx = j + 1 := by omega
            have hkz : ¬ ((j : Int) + 1 < (j : Int) + 1) := by omega
            have hs8 : (j : Int) ≤ (j : Int) + 1 := by omega
            by_cases hcp : cx = j + 1
            · subst hcp
              obtain ⟨A6, c6, w6, hrunB, ho6, hb6⟩ := HC.out (some ⟨g, off, none⟩) (0) (fun h => by omega)
              have HO6 := Lib.hid (And.intro ho6 (HWV.out.trans (hb6.mono HWV.out.size)))
              clear ho6 hb6 HC
              go_wp2_with fail
              go_region_law (first | (refine step_run rfl (.tmp 41) (.tmp 44) 22 rfl _ _ _ (by simp [Act.eval]) (by simp [Act.eval]) hrunA ?_) | (refine step_run rfl (.tmp 45) (.tmp 49) 22 rfl _ _ _ (by simp [Act.eval]) (by simp [Act.eval]) hrunB ?_))
              all_goals
                clear hrunA hrunB
                go_wp2_with fail
                go_roundg ga
                case measure => omega
                case rel => exact ⟨i + 1, A6, (j + 1) - 1, c6, rfl, by go_num, HF.out.2.2.1, HF.out.2.2.2, by omega, Lib.hid ⟨_, HNX.out, OutT.base HO6.out.1 HWV.out.size⟩, Lib.hid HO6.out.2⟩
            · have hcp2 : ¬ ((cx : Int) = (j : Int) + 1) := by omega
              have hcpN : ¬ cx = j + 1 := by omega
              obtain ⟨A6, c6, w6, hrunB, ho6, hb6⟩ := HC.out (some ⟨g, off + (j + 1) * 4, none⟩) (cx - (j + 1)) (fun h => by omega)
              have HO6 := Lib.hid (And.intro ho6 (HWV.out.trans (hb6.mono HWV.out.size)))
              clear ho6 hb6 HC
              go_wp2_with fail
              go_region_law (first | (refine step_run rfl (.tmp 41) (.tmp 44) 22 rfl _ _ _ (by simp [Act.eval]) (by simp [Act.eval]) hrunA ?_) | (refine step_run rfl (.tmp 45) (.tmp 49) 22 rfl _ _ _ (by simp [Act.eval]) (by simp [Act.eval]) hrunB ?_))
              all_goals
                clear hrunA hrunB
                go_wp2_with fail
                go_roundg ga
                case measure => omega
                case rel => exact ⟨i + 1, A6, (j + 1) - 1, c6, rfl, by go_num, HF.out.2.2.1, HF.out.2.2.2, by omega, Lib.hid ⟨_, HNX.out, OutT.base HO6.out.1 HWV.out.size⟩, Lib.hid HO6.out.2⟩
    · obtain rfl : m = i := by omega
      have hltz : ¬ (m : Int) < (m : Int) := by omega
      have hall : less.take m = less := List.take_of_length_le (by rw [H0.out.2.1]; exact Nat.le_refl _)
      rw [hall] at hlx
      have hln := hox.len
      have HE := Lib.hid (And.intro hlx (And.intro hox HW.out))
      have HLN := Lib.hid hln
      clear hall hlx hox hln HO hx hgk
      go_wp2_with fail
      go_ret2
      exact ⟨HE.out.2.2, .inl ⟨lx, Ax, cx, HE.out.1, by rw [HLN.out]; rfl, by rw [HLN.out]; exact HE.out.2.1⟩⟩
end Go.Proofs.YtlhogjigdmpokaaGreatDoor.vtc
