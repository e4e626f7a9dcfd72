/- The law NodesDeep of warderlaw04 answers true for every depth and every tag, and leaves its arguments as they were; no condition but that the library's two tables are as its text lays them. -/
import Derived.Test.YtaafgohaikhekaaDoorCards
import Derived.Test.YtaafgohaikhekaaDoorTie
import Derived.WalkKit
import Derived.ProofKit
import Derived.OpenShut
import Derived.ChangeOld
import Derived.Below
import Derived.SizedLaws
import Derived.Test.YtaafgohaikhekaaDoorKb
import Derived.Test.YtaafgohaikhekaaDoorXc
import Derived.Test.YtaafgohaikhekaaDoorNdDp
namespace Go.Proofs.YtaafgohaikhekaaDoor.nodesDeep
open Go.ChangeShapes Go.WideShapes Go.ChangeAt Go.RowKit
set_option linter.unusedVariables false

theorem own : ownKnob Tryd.prog.godebug = none := by kernel_rfl
theorem laidOut : laidOutB Tryd.prog = true := by kernel_rfl

open Go.Proofs.YtaafgohaikhekaaDoor.tlvc Go.Proofs.YtaafgohaikhekaaDoor.tlvd Go.Proofs.YtaafgohaikhekaaDoor.txc Go.Proofs.YtaafgohaikhekaaDoor.ndc
theorem end_mod {t : Int} (h : 0 ≤ t ∧ t ≤ 255) : endlessB t = decide (t % 32 = 31) := by
  have key : ∀ X : Fin 256, endlessB ((X.val : Nat) : Int) = decide (((X.val : Nat) : Int) % 32 = 31) := by decide +kernel
  obtain ⟨k, rfl⟩ := Int.eq_ofNat_of_zero_le h.1
  exact key ⟨k, by omega⟩

set_option maxRecDepth 100000 in
set_option maxHeartbeats 16000000 in
theorem walk (a0 : Int) (a1 : Int) (w : World) (w0 : (Lit.int .u8 a0).wf = true) (w1 : (Lit.int .u8 a1).wf = true) (hT : txc.Tabs w) :
    Calls Tryd.prog 8 #[.int .u8 a0, .int .u8 a1] w fun e w' => e = .returned (.bool true) ∧ Below w.heap.size w w' := by
  have u0 : 0 ≤ a0 ∧ a0 ≤ 255 := bounds_u8 w0
  have u1 : 0 ≤ a1 ∧ a1 ≤ 255 := bounds_u8 w1
  obtain ⟨y, hy⟩ : ∃ y, a1 % 32 = y := ⟨_, rfl⟩
  have hyb : 0 ≤ y ∧ y ≤ 31 := by omega
  have hor := or_160 hyb.1 hyb.2
  obtain ⟨T, hT1⟩ : ∃ T, y + 160 = T := ⟨_, rfl⟩
  rw [hT1] at hor
  have hT0 : 0 ≤ T ∧ T ≤ 255 := by omega
  obtain ⟨D, hD⟩ : ∃ D : Nat, a0 % 40 = (D : Int) := ⟨(a0 % 40).toNat, by omega⟩
  have hD40 : D < 40 := by omega
  have HT1 := Lib.hid hT1
  clear hT1
  go_enter Tryd.func8, Tryd.ntmps8
  go_wp2_with fail
  refine (head_any _ hT).mono ?_
  rintro e wa ⟨rfl, hba⟩
  have hpw := hba.size
  obtain ⟨P, hP⟩ : ∃ z, wa.heap.size = z := ⟨_, rfl⟩
  have hdeep0 : Deep w P T 0 (some ⟨P + 1, 0, none⟩) 2 5 none 0 0 ((wa.alloc (.cells #[.int .u8 5, .slice none 0 0, .slice none 0 0] 25)).alloc (.cells #[.int .u8 5, .int .u8 0] 5)) := by
    subst hP
    refine ⟨(hba.alloc hpw _).alloc (by simp; omega) _, hpw, by simp; omega, ?_, ⟨Nat.le_refl _, by unfold maxLen; decide⟩, fun g off sp e => by cases e; omega, ?_, ?_⟩
    · have := bys_lit (w := wa.alloc (.cells #[.int .u8 5, .slice none 0 0, .slice none 0 0] 25)) [5, 0] 5 (0, 0) (by intro x hx; simp at hx; omega)
      rw [show (wa.alloc (.cells #[.int .u8 5, .slice none 0 0, .slice none 0 0] 25)).heap.size = wa.heap.size + 1 by simp] at this
      exact this
    · rw [heap_old_ _ _ (by simp)]; exact heap_new_ _ _
    · show NdC _ _ (.mk 5 [] []) _ _ _
      unfold NdC
      exact ⟨rfl, by omega, ⟨none, 0, 0, rfl, Nat.le_refl _, Nat.zero_le _, Bys.nil_ _ _, fun h => absurd h (by omega)⟩, none, 0, rfl, Nat.le_refl _, Nat.zero_le _, fun h => absurd h (by simp)⟩
  have HD0 := Lib.hid hdeep0
  clear hdeep0
  go_wp2_with fail
  clear hP hba hpw
  go_loopg [7, 8] 41 (fun gk s7 s8 wx => ∃ (i : Nat) (A : Option Addr) (c : Nat) (tg : Int) (K : Option Addr) (kl ck : Nat), s8 = .int .i64 i ∧ s7 = .slice A (bN T i).length c ∧ i ≤ D ∧ D - i < gk ∧ Hid (Deep w P T i A c tg K kl ck wx))
  case atStart => exact ⟨0, _, 2, 5, none, 0, 0, rfl, rfl, by omega, by omega, HD0⟩
  case round =>
    obtain ⟨i, A, c, tg, K, kl, ck, rfl, rfl, hi, hgk, hdp⟩ := hrel
    clear HD0
    have hd0 := hdp.out
    have m0 : wr.cell? ⟨P, 0, none⟩ = some (.int .u8 tg) := by rw [Lib.cell_of_heap hd0.box]; rfl
    have m1 : wr.cell? ⟨P, 1, none⟩ = some (.slice none 0 0) := by rw [Lib.cell_of_heap hd0.box]; rfl
    have m2 : wr.cell? ⟨P, 2, none⟩ = some (.slice K kl ck) := by rw [Lib.cell_of_heap hd0.box]; rfl
    have z0 : wr.frozen? ⟨P, 0, none⟩ = false := Lib.frozen_of_heap hd0.box _
    have z1 : wr.frozen? ⟨P, 1, none⟩ = false := Lib.frozen_of_heap hd0.box _
    have z2 : wr.frozen? ⟨P, 2, none⟩ = false := Lib.frozen_of_heap hd0.box _
    have hpl := hd0.hi
    have HBY := Lib.hid hd0.bys
    have HFAR := Lib.hid hd0.far
    have HDP := hdp
    clear hd0
    by_cases hlt : i < D
    · have hltz : (i : Int) < (D : Int) := by omega
      obtain ⟨gk', rfl⟩ : ∃ g', gk = g' + 1 := ⟨gk - 1, by omega⟩
      have hl := bN_len T i
      obtain ⟨nb, hnb⟩ : ∃ n, (bN T i).length = n := ⟨_, rfl⟩
      rw [hnb] at hl HBY ⊢
      have HNB := Lib.hid hnb
      clear hnb hdp
      by_cases hsh : 127 < nb
      · have hz : (127 : Int) < (nb : Int) := by omega
        have hu8 : IntKind.u8.wrap (nb : Int) = (nb : Int) := IntWalk.u8_in _ ⟨by omega, by omega⟩
        go_upto_region 10 with (fail)
        obtain ⟨w3, hw3⟩ : ∃ z, ((((wr.setCell ⟨P, 0, none⟩ (.int .u8 T)).setCell ⟨P, 1, none⟩ (.slice none 0 0)).setCell ⟨P, 2, none⟩ (.slice (some ⟨wr.heap.size + 1, 0, none⟩) 1 1)).alloc (.cells #[.int .u8 tg, .slice none 0 0, .slice K kl ck] 25)).alloc (.cells #[.int .u8 tg, .slice none 0 0, .slice K kl ck] 25) = z := ⟨_, rfl⟩
        rw [hw3]
        have hb3 : Bys w3 A nb (bN T i) := bys_stays (B := fun g => g ≠ P) ⟨by rw [← hw3]; simp; omega, fun q hq hl => cell_same (by rw [← hw3, heap_old_ _ _ (by simp; omega), heap_old_ _ _ (by simp; omega), set_heap_other _ _ _ _ _ hq, set_heap_other _ _ _ _ _ hq, set_heap_other _ _ _ _ _ hq])⟩ HBY.out (fun _ => HFAR.out)
        obtain ⟨v', w5, hrun, hown, hgr, _⟩ := app_bytes (w3.alloc (.cells #[.int .u8 T, .int .u8 129, .int .u8 (nb : Int)] 5)) w3.heap.size (.slice (some ⟨w3.heap.size, 0, none⟩) 3 3) 3 _ (World.ownsRow_lit w3 #[.int .u8 T, .int .u8 129, .int .u8 (nb : Int)] 3 (Nat.le_refl _) (by unfold maxLen; decide) rfl) A nb c (bN T i) (hb3.alloc _) (by omega) (by simp)
        have hxs : vals ([T, 129, (nb : Int)] ++ bN T i) = (#[.int .u8 T, .int .u8 129, .int .u8 (nb : Int)] : Array Value).toList ++ vals (bN T i) := rfl
        rw [← hxs] at hown
        obtain ⟨A', c', hv', hdp'⟩ := deep_step HDP.out hT0 hw3.symm hgr hown (Fit.app (by intro x hx; simp at hx; omega) HBY.out.2.1) (by show _ = putBytes T (bN T i); rw [put_mid (by have := HNB.out; omega) (by have := HNB.out; omega), HNB.out]; rfl)
        have HX := Lib.hid (And.intro hdp' hv')
        clear hxs hown hgr hb3 hdp'
        go_wp2_with (at_builtin; refine wpl_run rfl (.tmp 40) (.tmp 41) 22 rfl _ _ _ rfl rfl hrun ?_)
        subst hv'
        go_roundg gk'
        case measure => omega
        case rel => exact ⟨i + 1, A', c', T, _, _, _, by go_num, rfl, by omega, by omega, Lib.hid HX.out.1⟩
      · have hz : ¬ (127 : Int) < (nb : Int) := by omega
        have hu8 : IntKind.u8.wrap (nb : Int) = (nb : Int) := IntWalk.u8_in _ ⟨by omega, by omega⟩
        go_upto_region 11 with (fail)
        obtain ⟨w3, hw3⟩ : ∃ z, ((((wr.setCell ⟨P, 0, none⟩ (.int .u8 T)).setCell ⟨P, 1, none⟩ (.slice none 0 0)).setCell ⟨P, 2, none⟩ (.slice (some ⟨wr.heap.size + 1, 0, none⟩) 1 1)).alloc (.cells #[.int .u8 tg, .slice none 0 0, .slice K kl ck] 25)).alloc (.cells #[.int .u8 tg, .slice none 0 0, .slice K kl ck] 25) = z := ⟨_, rfl⟩
        rw [hw3]
        have hb3 : Bys w3 A nb (bN T i) := bys_stays (B := fun g => g ≠ P) ⟨by rw [← hw3]; simp; omega, fun q hq hl => cell_same (by rw [← hw3, heap_old_ _ _ (by simp; omega), heap_old_ _ _ (by simp; omega), set_heap_other _ _ _ _ _ hq, set_heap_other _ _ _ _ _ hq, set_heap_other _ _ _ _ _ hq])⟩ HBY.out (fun _ => HFAR.out)
        obtain ⟨v', w5, hrun, hown, hgr, _⟩ := app_bytes (w3.alloc (.cells #[.int .u8 T, .int .u8 (nb : Int)] 5)) w3.heap.size (.slice (some ⟨w3.heap.size, 0, none⟩) 2 2) 2 _ (World.ownsRow_lit w3 #[.int .u8 T, .int .u8 (nb : Int)] 2 (Nat.le_refl _) (by unfold maxLen; decide) rfl) A nb c (bN T i) (hb3.alloc _) (by omega) (by simp)
        have hxs : vals ([T, (nb : Int)] ++ bN T i) = (#[.int .u8 T, .int .u8 (nb : Int)] : Array Value).toList ++ vals (bN T i) := rfl
        rw [← hxs] at hown
        obtain ⟨A', c', hv', hdp'⟩ := deep_step HDP.out hT0 hw3.symm hgr hown (Fit.app (by intro x hx; simp at hx; omega) HBY.out.2.1) (by show _ = putBytes T (bN T i); rw [put_short (by have := HNB.out; omega), HNB.out]; rfl)
        have HX := Lib.hid (And.intro hdp' hv')
        clear hxs hown hgr hb3 hdp'
        go_wp2_with (at_builtin; refine wpl_run rfl (.tmp 49) (.tmp 50) 22 rfl _ _ _ rfl rfl hrun ?_)
        subst hv'
        go_roundg gk'
        case measure => omega
        case rel => exact ⟨i + 1, A', c', T, _, _, _, by go_num, rfl, by omega, by omega, Lib.hid HX.out.1⟩
    · have hltz : ¬ (i : Int) < (D : Int) := by omega
      obtain rfl : i = D := by omega
      have hBw := hdp.out.bel
      have hnd := hdp.out.nd
      have hcp := hdp.out.cap
      have hTw := hT.below hBw
      have hck := check_any (nN T i) _ (.agg #[.int .u8 tg, .slice none 0 0, .slice K kl ck]) wr ⟨_, _, _, rfl, hnd⟩ hTw
      obtain ⟨g, hg⟩ : ∃ z, errW (writeF (nN T i) 0) = z := ⟨_, rfl⟩
      rw [hg] at hck
      have HCK := Lib.hid hck
      have HG := Lib.hid hg
      have HB0 := Lib.hid hBw
      have HN0 := Lib.hid (bN_len T i)
      obtain ⟨nb, hnb⟩ : ∃ n, (bN T i).length = n := ⟨_, rfl⟩
      rw [hnb] at hcp HBY ⊢
      have HNB := Lib.hid hnb
      clear hck hg hBw hnd hnb hdp HDP hTw HFAR
      go_wp2_with fail
      refine HCK.out.mono ?_
      rintro e wc ⟨rfl, hbc⟩
      have hB1 := HB0.out.trans (hbc.mono HB0.out.size)
      have hpr := parse_any A nb c (bN T i) wc (HBY.out.below hbc) hcp.1 hcp.2 (hT.below hB1)
      obtain ⟨S, hS⟩ : ∃ z, readAllF (bN T i) = z := ⟨_, rfl⟩
      rw [hS] at hpr
      have HPR := Lib.hid hpr
      have HS := Lib.hid hS
      have HB1 := Lib.hid hB1
      clear HCK hbc hpr hS hB1 HB0 HBY m0 m1 m2 z0 z1 z2
      go_wp2_with fail
      refine HPR.out.mono ?_
      rintro e wd ⟨hbd, hpost⟩
      have hB2 := HB1.out.trans (hbd.mono HB1.out.size)
      have hzl := hB2.size
      clear HPR hbd HB1
      have hT160 : 64 ≤ T := by have := HT1.out; omega
      have hc : compB T = true := by rw [← HT1.out]; exact comp_big hyb.1 hyb.2
      have h49 : T ≠ 49 := by omega
      by_cases hy31 : y = 31
      · have hm : T % 32 = 31 := by have := HT1.out; omega
        have he : endlessB T = true := by rw [end_mod hT0]; simpa using hm
        by_cases hi0 : i = 0
        · subst hi0
          have hD0 : a0 % 40 = 0 := by rw [hD]; rfl
          clear hD
          cases S with
          | bad at_ er =>
            have hpost : e = .returned (.tuple #[.agg #[.int .u8 0, .slice none 0 0, .slice none 0 0], .int .i64 at_, .int .i64 er]) := hpost
            subst hpost
            have hend := hB2.alloc hB2.size (.cells #[.int .u8 0, .slice none 0 0, .slice none 0 0] 25)
            clear hB2 HG HS
            go_wp2
            go_ret
            exact ⟨rfl, hend⟩
          | ok m nx =>
            obtain ⟨v, rfl, y0, y1, y2, rfl, hyn⟩ := hpost
            obtain ⟨tj, Aj, laj, caj, Kj, lkj, ckj, ej0, ej1, ej2⟩ := hyn.shape
            subst ej0 ej1 ej2
            have hend := hB2.alloc hB2.size (.cells #[.int .u8 tj, .slice Aj laj caj, .slice Kj lkj ckj] 25)
            clear hB2 HG HS hyn
            go_wp2
            go_ret
            exact ⟨rfl, hend⟩
        · obtain ⟨j, rfl⟩ : ∃ j, i = j + 1 := ⟨i - 1, by omega⟩
          have e1 : g = 11 := by
            rw [← HG.out]
            show errW (writeF (.mk T [] [nN T j]) 0) = 11
            rw [endless_write hm]; rfl
          have e2 : S = .bad 0 11 := by
            rw [← HS.out]
            show readAllF (putBytes T (bN T j)) = _
            show readAllF (T :: (hdr ((bN T j).length : Int) ++ bN T j)) = _
            have hln := hdr_length ((bN T j).length : Int)
            cases hh : hdr ((bN T j).length : Int) ++ bN T j with
            | nil =>
              have h2 := congrArg List.length hh
              rw [List.length_append] at h2
              have h3 : (hdr ((bN T j).length : Int)).length = 0 := by simp at h2; simp [h2.1]
              split at hln <;> (try split at hln) <;> omega
            | cons f r => exact endless_read he f r
          subst e1 e2
          have hpost : e = .returned (.tuple #[.agg #[.int .u8 0, .slice none 0 0, .slice none 0 0], .int .i64 0, .int .i64 11]) := hpost
          subst hpost
          have hend := hB2.alloc hB2.size (.cells #[.int .u8 0, .slice none 0 0, .slice none 0 0] 25)
          have hDn : ¬ ((j : Int) + 1 = 0) := by omega
          have hDb : ((j : Int) + 1 == 0) = false := by simp; omega
          clear hB2 HG HS
          go_wp2
          go_ret
          exact ⟨rfl, hend⟩
      · have hyb31 : (y == 31) = false := by simpa using hy31
        have hm : T % 32 ≠ 31 := by have := HT1.out; omega
        have he : endlessB T = false := by rw [end_mod hT0]; simpa using hm
        have ha : ∀ o, aloneF T [] o = if 32 ≤ o then 41 else 0 := alone_big hT160 hm []
        have hw := deep_write hc he h49 ha i 0 (by omega)
        rw [Nat.zero_add] at hw
        by_cases hd31 : 31 < i
        · have hdz : (31 : Int) < (i : Int) := by omega
          have e1 : g = 41 := by rw [← HG.out, hw, if_pos (by omega)]; rfl
          obtain ⟨at_, e2⟩ : ∃ a, S = .bad a 41 := by
            obtain ⟨a, h⟩ := deep_all hc he ha i (by omega) (by omega)
            exact ⟨a, HS.out.symm.trans h⟩
          subst e1 e2
          have hpost : e = .returned (.tuple #[.agg #[.int .u8 0, .slice none 0 0, .slice none 0 0], .int .i64 at_, .int .i64 41]) := hpost
          subst hpost
          have hend := hB2.alloc hB2.size (.cells #[.int .u8 0, .slice none 0 0, .slice none 0 0] 25)
          clear hB2 HG HS ha hw
          go_wp2
          go_ret
          exact ⟨rfl, hend⟩
        · have hdz : ¬ (31 : Int) < (i : Int) := by omega
          rw [if_neg (by omega)] at hw
          have e1 : g = 0 := by rw [← HG.out, hw]; rfl
          have e2 : S = .ok (nN T i) (bN T i).length := HS.out.symm.trans (read_all_back hw)
          subst e1 e2
          obtain ⟨v, rfl, y0, y1, y2, rfl, hyn⟩ := hpost
          obtain ⟨tj, Aj, laj, caj, Kj, lkj, ckj, ej0, ej1, ej2⟩ := hyn.shape
          subst ej0 ej1 ej2
          have hend := hB2.alloc hB2.size (.cells #[.int .u8 tj, .slice Aj laj caj, .slice Kj lkj ckj] 25)
          clear hB2 HG HS hyn ha hw
          go_wp2
          go_ret
          exact ⟨rfl, hend⟩

theorem reads (os : Os) {H : Type} (enc : TypeId × Value → H) : ∃ places, DataW.whole enc Tryd.prog ((txc.laidWorld os).forCall (fun _ _ => 0) ⟨#[], #[.int .u8 0, .int .u8 0], []⟩).memory Tryd.f8.params.toList Rows.nodesDeepSpec.vars false (#[.int .u8 0, .int .u8 0] : Array Value).toList 8 = some ([.lit (.int .u8 0), .lit (.int .u8 0)], [], places) :=
  ⟨[], by kernel_rfl⟩
set_option maxRecDepth 100000 in
theorem lifted (os : Os) (started : os.Started) (H : Type) (enc : TypeId × Value → H) (F : Stop.Interp) :
    ReturnsInHanded {} Tryd.checked os 8 .any ((OpenSpec.ofChange Rows.nodesDeepSpec).preRow enc Tryd.prog Tryd.f8 Rows.nodesDeepRow.domain false Rows.nodesDeepRow.laid) (((OpenSpec.ofChange Rows.nodesDeepSpec).at F).post enc Tryd.prog Tryd.f8 false true false false) := by
  obtain ⟨places, hx⟩ := reads os enc
  refine returnsInHanded_of_row (C := Tryd.checked) (s := (OpenSpec.ofChange Rows.nodesDeepSpec)) own started (by kernel_rfl) Tryd.func8
    (witness_row_at (enc := enc) (C := Tryd.checked) false (txc.laidWorld os) #[.int .u8 0, .int .u8 0] rfl (by kernel_rfl) (by kernel_rfl) (by kernel_rfl)
      (OpenSpec.preRow_of_cond 8 hx (by kernel_rfl) (fun k hk => by cases hk) (by kernel_rfl) (txc.laid_met os _))) ?_
  intro W base args ds gs before hval0 hW hcnd hcond hsz0 hL _ _
  have hval : ∀ (j : Nat) t v, Tryd.f8.params[j]? = some t → args[j]? = some v → Value.okWide Tryd.prog W .any base t v := hval0
  have hW' := hW
  obtain ⟨p, q, hA0, hV, rfl, hfz, hnd⟩ := hW
  have hA : DataW.TrodAll enc Tryd.prog W 0 (fun _ => true) true Tryd.f8.params.toList args.toList ds p := hA0
  have hsz : (DataW.weightsEach Tryd.prog (Tryd.f8.params.toList ++ (OpenSpec.ofChange Rows.nodesDeepSpec).bare.plain.varTypes Tryd.prog) (ds ++ gs)).all (· ≤ reachBytes) = true := hsz0
  rw [Tryd.params8] at hA hval hsz
  obtain ⟨v0, vs0, d0, ds0, p0, q0, hargs, rfl, rfl, h0, r_0⟩ := trodAll_cons hA
  obtain ⟨v1, vs1, d1, ds1, p1, q1, rfl, rfl, rfl, h1, r_1⟩ := trodAll_cons r_0
  obtain ⟨rfl, rfl, rfl⟩ := trodAll_nil r_1
  obtain rfl : args = #[v0, v1] := by cases args; simp_all
  obtain ⟨rfl, rfl⟩ := trodVars_none hV
  obtain ⟨a0, rfl, rfl, rfl, w0⟩ := open_int Tryd.underlying5 (hval 0 5 v0 rfl rfl) h0
  obtain ⟨a1, rfl, rfl, rfl, w1⟩ := open_int Tryd.underlying5 (hval 1 5 v1 rfl rfl) h1
  clear hA0 hval0
  have hT : txc.Tabs W := txc.tabs_of hL
  refine (walk a0 a1 W w0 w1 hT).mono fun e W' ⟨he, bel⟩ => ?_
  subst he
  exact ⟨_, rfl, _, _, _, [], _, [], hW', trodAll_mk1 (shut_bool Tryd.underlying4 _), (trodAll_cons_mk (shut_int Tryd.underlying5 w0) (trodAll_cons_mk (shut_int Tryd.underlying5 w1) trodAll_mk0)), rfl, bel.frame _, fun h => by cases h⟩

theorem over : Rows.nodesDeepRow.holds Tryd.pinned (OpenSpec.ofChange Rows.nodesDeepSpec) :=
  OpenClaim.holds_of_cond 8 Tryd.f8 rfl rfl rfl rfl rfl rfl rfl ⟨rfl, rfl, rfl, rfl, rfl⟩ rfl rfl rfl rfl rfl (by kernel_rfl) Tryd.func8 (by kernel_rfl)
    (of_decide_eq_true (by kernel_rfl)) (by unfold Func.isWrapper; first | (rw [if_pos (by decide +kernel)]; kernel_rfl) | (rw [if_neg (by decide +kernel)]; exact ⟨rfl, rfl⟩))
    (fun os started H enc _ F => by rw [OpenClaim.pre_eq_preRow]; exact lifted os started H enc F)

theorem plain (f : FuncId) (fn : Func) (hf : Tryd.pinned.checked.prog.funcNamed "warder/warderlaw04.NodesDeep" = some f) (hfn : Tryd.pinned.checked.prog.funcs[f]? = some fn) :
    true = Tryd.pinned.checked.prog.looks [] ∧ ∀ (j : Nat) t, fn.params[j]? = some t → Tryd.pinned.checked.prog.wantsStandIn t = false := by
  obtain rfl : f = 8 := Option.some.inj ((show Tryd.prog.funcNamed "warder/warderlaw04.NodesDeep" = some 8 by kernel_rfl).symm.trans hf) |>.symm
  obtain rfl : fn = Tryd.f8 := (Option.some.inj (Tryd.func8.symm.trans hfn)).symm
  refine ⟨by kernel_rfl, fun j t ht => ?_⟩
  rw [Tryd.params8] at ht
  match j, ht with
    | 0, ht => obtain rfl : t = 5 := (Option.some.inj ht).symm; exact (show Tryd.prog.wantsStandIn 5 = false by kernel_rfl)
    | 1, ht => obtain rfl : t = 5 := (Option.some.inj ht).symm; exact (show Tryd.prog.wantsStandIn 5 = false by kernel_rfl)
    | j + 2, ht => simp at ht

theorem proved : Rows.NodesDeepCardSaid :=
  Claim7.holds_tied_plain_at .later [] _ _ _ _ over (fun _ h => by cases h) (by kernel_rfl) (fun _ h => by cases h) nodesDeep_row_tie rfl ⟨rfl, rfl⟩ (by kernel_rfl) rfl plain (by kernel_rfl)
#print axioms proved
end Go.Proofs.YtaafgohaikhekaaDoor.nodesDeep
