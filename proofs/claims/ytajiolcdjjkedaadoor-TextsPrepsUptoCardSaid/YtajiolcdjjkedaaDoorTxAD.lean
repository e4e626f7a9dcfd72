/- The document's own Prep, walked: the walk itself. -/
import Derived.Test.YtajiolcdjjkedaaDoorTxAC
namespace Go.Proofs.YtajiolcdjjkedaaDoor.txc
open Go.RowKit Go.Proofs.YtajiolcdjjkedaaDoor.txm Go.Proofs.YtajiolcdjjkedaaDoor.tlvc
set_option linter.unusedVariables false
set_option linter.unusedSimpArgs false

set_option maxRecDepth 100000 in
set_option maxHeartbeats 8000000 in
theorem refPrep_any (s : ByteArray) (w : World) (hs : s.size ≤ 8796093022208) :
    Calls Tryd.prog 16 #[.string s] w fun e w' => e = .returned (.string ⟨(prepF s).toArray⟩) ∧ Below w.heap.size w w' := by
  obtain ⟨i0, hi0, hz0, hz1, hz2⟩ := info_parts Tryd.info21
  obtain ⟨cap0, W1, hcv, hR, hb1⟩ := run_conv (P := Tryd.prog) w 9 55 21 s Tryd.underlying9 Tryd.underlying55 Tryd.underlying21 hs
  have hrl : (runes s).length ≤ s.size := runesF_len s _ _
  have hrf : FitR (runes s) := runesF_fit s _ _
  have hfin : prepF s = enc (trimZ ((l1 (runes s)).foldl step2 [])) := by rw [prep2_eq]; rfl
  rw [hfin]
  obtain ⟨rs, hrs⟩ : ∃ rs, runes s = rs := ⟨_, rfl⟩
  rw [hrs] at hcv hR hrl hrf ⊢
  obtain ⟨RES, hRES⟩ : ∃ R, enc (trimZ ((l1 rs).foldl step2 [])) = R := ⟨_, rfl⟩
  rw [hRES]
  have HRES := Lib.hid hRES
  have hll := l1_len rs
  have hlf := l1_fit hrf
  obtain ⟨n, hn⟩ : ∃ n, rs.length = n := ⟨_, rfl⟩
  rw [hn] at hcv hR hrl hll
  have HN0 := Lib.hid hn
  have HR := Lib.hid hR
  have HF := Lib.hid hrf
  have HLF := Lib.hid hlf
  have HB1 := Lib.hid hb1
  clear hfin hrs hRES hn hR hrf hlf hb1
  go_enter Tryd.func16, Tryd.ntmps16
  go_wp2_with (simp only [hcv])
  go_loopw [3, 5, 6] (fun t3 t5 _ wr => ∃ k : Nat, k ≤ n ∧ t5 = .int .i64 k ∧ wr.ownsRow W1.heap.size 21 1 t3 (l1 (rs.take k)).length (rvals (l1 (rs.take k))) ∧ Below W1.heap.size W1 wr) (fun _ t5 _ _ => n - (intOf t5).toNat)
  case atStart => exact ⟨0, by omega, rfl, World.ownsRow_nil _ _ _ _, Below.refl _ _⟩
  case round =>
    obtain ⟨k, hk, rfl, hown, hbw⟩ := hrel
    by_cases hlt : k < n
    · obtain ⟨b, off, hA, _, hcl⟩ := (HR.out.below hbw).2.2 (by omega)
      cases hA
      have hc1 := hcl k hlt
      rw [Nat.zero_add] at hc1
      obtain ⟨r, hr⟩ : ∃ r, rs.getD k 0 = r := ⟨_, rfl⟩
      have hrb := HF.out.getD k
      rw [hr] at hc1 hrb
      obtain ⟨hr0, hr1⟩ := hrb
      have ht := take_next (ys := rs) (k := k) (by rw [HN0.out]; exact hlt) hr
      have hnext : l1 (rs.take (k + 1)) = l1 (rs.take k) ++ f1 r := by rw [ht, l1_app, l1_one]
      have hol := l1_len (rs.take k)
      rw [List.length_take] at hol
      obtain ⟨O, hO⟩ : ∃ O, l1 (rs.take k) = O := ⟨_, rfl⟩
      rw [hO] at hnext hol hown
      have hOn : O.length ≤ 8796093022208 := by omega
      have hBz := hbw.size
      clear hcl hr ht hO hol
      have hk0 : (0 : Int) ≤ (k : Int) := by omega
      have hkn : (k : Int) < n := by omega
      have hwk : IntKind.i64.wrap ((k : Int) + 1) = (k : Int) + 1 := IntWalk.i64_in _ (by omega)
      rcases kindw r with hk1 | hk1 | hk1 | hk1
      · have d1 : decide (Noth r) = true := decide_eq_true (k1_noth hk1)
        have e1 : l1 (rs.take (k + 1)) = O := by rw [hnext]; simp [f1, hk1]
        have HN := Lib.hid e1
        have D1 := Lib.hid d1
        clear d1 e1 hnext hk1
        go_wp2_with fail
        refine (noth_at _ _ _ D1.out).mono ?_
        rintro e w' ⟨rfl, rfl⟩
        go_wp2
        go_roundw
        case rel => exact ⟨k + 1, by omega, by go_num, by rw [HN.out]; exact hown, hbw⟩
        case measure => simp [intOf]; omega
      · have hb2 := k2_blank hk1
        have d1 : decide (Noth r) = false := decide_eq_false (by unfold Noth; unfold Blank at hb2; omega)
        have d2 : decide (Great r) = false := decide_eq_false (by unfold Great; unfold Blank at hb2; omega)
        have d3 : decide (Blank r) = true := decide_eq_true hb2
        have e1 : l1 (rs.take (k + 1)) = O ++ [32] := by rw [hnext]; simp [f1, hk1]
        have HN := Lib.hid e1
        have D1 := Lib.hid d1
        have D2 := Lib.hid d2
        have D3 := Lib.hid d3
        clear d1 d2 d3 e1 hnext hk1 hb2
        go_wp2_with fail
        refine (noth_at _ _ _ D1.out).mono ?_
        rintro e w' ⟨rfl, rfl⟩
        go_wp2_with fail
        refine (great_at _ _ _ D2.out).mono ?_
        rintro e w' ⟨rfl, rfl⟩
        go_wp2_with fail
        refine (blank_at _ _ _ D3.out).mono ?_
        rintro e w' ⟨rfl, rfl⟩
        go_wp2_with (at_builtin; refine wpl_rapp rfl (.tmp 29) (.tmp 31) 55 rfl W1.heap.size 21 i0 (.int .i32 0) Tryd.underlying55 hi0 hz0 hz1 hz2 rfl u3 O.length (rvals O) rfl (hown.alloc _) (some ⟨wr.heap.size, 0, none⟩) 1 1 [32] rfl (rns_new (by omega)) (by omega) (by simp; omega) ?_; intro v2 w2 ho hg _)
        obtain ⟨hown', hbw'⟩ := own_nextR hbw hown (zs := l1 (rs.take (k + 1))) HN.out rfl ho hg
        clear ho hg hown hbw
        go_roundw
        case rel => exact ⟨k + 1, by omega, by go_num, hown', hbw'⟩
        case measure => simp [intOf]; omega
      · have hb2 := kind3_great hk1
        have d1 : decide (Noth r) = false := decide_eq_false (by unfold Noth; unfold Great at hb2; omega)
        have d2 : decide (Great r) = true := decide_eq_true hb2
        have d3 : decide (Blank (r + 32)) = false := decide_eq_false (by unfold Blank; unfold Great at hb2; omega)
        have hr2 : r + 32 ≤ 1114111 := by unfold Great at hb2; omega
        have hr3 : 0 ≤ r + 32 := by omega
        have hw : IntKind.i32.wrap (r + 32) = r + 32 := IntWalk.i32_in _ (by omega)
        have e1 : l1 (rs.take (k + 1)) = O ++ [r + 32] := by rw [hnext]; simp [f1, hk1]
        have HN := Lib.hid e1
        have D1 := Lib.hid d1
        have D2 := Lib.hid d2
        have D3 := Lib.hid d3
        clear d1 d2 d3 e1 hnext hk1 hb2
        go_wp2_with fail
        refine (noth_at _ _ _ D1.out).mono ?_
        rintro e w' ⟨rfl, rfl⟩
        go_wp2_with fail
        refine (great_at _ _ _ D2.out).mono ?_
        rintro e w' ⟨rfl, rfl⟩
        go_wp2_with fail
        refine (blank_at _ _ _ D3.out).mono ?_
        rintro e w' ⟨rfl, rfl⟩
        go_wp2_with (at_builtin; refine wpl_rapp rfl (.tmp 29) (.tmp 31) 55 rfl W1.heap.size 21 i0 (.int .i32 0) Tryd.underlying55 hi0 hz0 hz1 hz2 rfl u3 O.length (rvals O) rfl (hown.alloc _) (some ⟨wr.heap.size, 0, none⟩) 1 1 [r + 32] rfl (rns_new (by omega)) (by omega) (by simp; omega) ?_; intro v2 w2 ho hg _)
        obtain ⟨hown', hbw'⟩ := own_nextR hbw hown (zs := l1 (rs.take (k + 1))) HN.out rfl ho hg
        clear ho hg hown hbw
        go_roundw
        case rel => exact ⟨k + 1, by omega, by go_num, hown', hbw'⟩
        case measure => simp [intOf]; omega
      · obtain ⟨c1, c2, c3⟩ := k0_none hk1
        have d1 : decide (Noth r) = false := decide_eq_false c1
        have d2 : decide (Great r) = false := decide_eq_false c3
        have d3 : decide (Blank r) = false := decide_eq_false c2
        have e1 : l1 (rs.take (k + 1)) = O ++ [r] := by rw [hnext]; simp [f1, hk1]
        have HN := Lib.hid e1
        have D1 := Lib.hid d1
        have D2 := Lib.hid d2
        have D3 := Lib.hid d3
        clear d1 d2 d3 e1 hnext hk1 c1 c2 c3
        go_wp2_with fail
        refine (noth_at _ _ _ D1.out).mono ?_
        rintro e w' ⟨rfl, rfl⟩
        go_wp2_with fail
        refine (great_at _ _ _ D2.out).mono ?_
        rintro e w' ⟨rfl, rfl⟩
        go_wp2_with fail
        refine (blank_at _ _ _ D3.out).mono ?_
        rintro e w' ⟨rfl, rfl⟩
        go_wp2_with (at_builtin; refine wpl_rapp rfl (.tmp 29) (.tmp 31) 55 rfl W1.heap.size 21 i0 (.int .i32 0) Tryd.underlying55 hi0 hz0 hz1 hz2 rfl u3 O.length (rvals O) rfl (hown.alloc _) (some ⟨wr.heap.size, 0, none⟩) 1 1 [r] rfl (rns_new (by omega)) (by omega) (by simp; omega) ?_; intro v2 w2 ho hg _)
        obtain ⟨hown', hbw'⟩ := own_nextR hbw hown (zs := l1 (rs.take (k + 1))) HN.out rfl ho hg
        clear ho hg hown hbw
        go_roundw
        case rel => exact ⟨k + 1, by omega, by go_num, hown', hbw'⟩
        case measure => simp [intOf]; omega
    · obtain rfl : k = n := by omega
      have hall : rs.take k = rs := List.take_of_length_le (by rw [HN0.out]; exact Nat.le_refl _)
      rw [hall] at hown
      clear hall
      obtain ⟨L, hL⟩ : ∃ L, l1 rs = L := ⟨_, rfl⟩
      rw [hL] at hown hll HRES HLF
      have hBw := then_ HB1.out (hbw.mono (Nat.le_refl _))
      clear hL hbw
      obtain ⟨A3, c3, rfl, hc31, hc32, _⟩ := own_shape hown
      have hR3 := Rns.own hown HLF.out
      obtain ⟨m, hm⟩ : ∃ m, L.length = m := ⟨_, rfl⟩
      rw [hm] at hown hll hR3 hc31 ⊢
      have HM := Lib.hid hm
      have HR3 := Lib.hid hR3
      have HBW := Lib.hid hBw
      clear hown hm hR3 hBw hcv
      obtain ⟨W2, rfl⟩ : ∃ W2, W2 = wr := ⟨_, rfl⟩
      go_wp2_with fail
      go_loopw [7, 8] (fun t7 t8 wr => ∃ j : Nat, j ≤ m ∧ t8 = .int .i64 j ∧ wr.ownsRow W2.heap.size 21 1 t7 ((L.take j).foldl step2 []).length (rvals ((L.take j).foldl step2 [])) ∧ Below W2.heap.size W2 wr) (fun _ t8 _ => m - (intOf t8).toNat)
      case atStart => exact ⟨0, by omega, rfl, World.ownsRow_nil _ _ _ _, Below.refl _ _⟩
      case round =>
        obtain ⟨k, hk, rfl, hown, hbw⟩ := hrel
        obtain ⟨A7, c7, rfl, hc71, hc72, hA7⟩ := own_shape hown
        by_cases hlt : k < m
        · obtain ⟨b, off, rfl, _, hcl⟩ := (HR3.out.below hbw).2.2 (by omega)
          have hc1 := hcl k hlt
          obtain ⟨C, hC⟩ : ∃ C, L.getD k 0 = C := ⟨_, rfl⟩
          have hCb := HLF.out.getD k
          rw [hC] at hc1 hCb
          obtain ⟨hCb0, hCb1⟩ := hCb
          have ht := take_next (ys := L) (k := k) (by rw [HM.out]; exact hlt) hC
          have hnext : (L.take (k + 1)).foldl step2 [] = step2 ((L.take k).foldl step2 []) C := by rw [ht, List.foldl_append]; rfl
          have hol := fold2_len (L.take k) []
          rw [List.length_take] at hol
          have hof : FitR ((L.take k).foldl step2 []) := fold2_fit _ _ (fun x hx => HLF.out x (List.mem_of_mem_take hx)) (fun x hx => by cases hx)
          obtain ⟨O, hO⟩ : ∃ O, (L.take k).foldl step2 [] = O := ⟨_, rfl⟩
          rw [hO] at hnext hol hown hof hc71 hA7 ⊢
          have hOn : O.length ≤ 8796093022208 := by simp at hol; omega
          have hBz := hbw.size
          clear hcl hC ht hO hol
          have hk0 : (0 : Int) ≤ (k : Int) := by omega
          have hkn : (k : Int) < m := by omega
          have hwk : IntKind.i64.wrap ((k : Int) + 1) = (k : Int) + 1 := IntWalk.i64_in _ (by omega)
          by_cases hz : C = 32
          · subst hz
            by_cases h0 : O = []
            · subst h0
              have e1 : (L.take (k + 1)).foldl step2 [] = [] := by rw [hnext]; simp [step2]
              have HN := Lib.hid e1
              clear e1 hnext hA7
              go_wp2
              go_roundw
              case rel => exact ⟨k + 1, by omega, by go_num, by rw [HN.out]; exact hown, hbw⟩
              case measure => simp [intOf]; omega
            · obtain ⟨P, hP⟩ : ∃ P, O.length = P + 1 := ⟨O.length - 1, by have : O.length ≠ 0 := fun h => h0 (List.eq_nil_of_length_eq_zero h); omega⟩
              obtain ⟨g, rfl, hg1, hg2⟩ := hA7 P (by omega)
              have hcz := (hown.cellAt P (by omega))
              have hZ : (rvals O)[P]? = some (.int .i32 (lastZ O)) := by
                unfold lastZ
                rw [hP, Nat.add_sub_cancel]
                simp [rvals, List.getD_eq_getElem?_getD, List.getElem?_eq_getElem (show P < O.length by omega)]
              rw [hZ] at hcz
              obtain ⟨Z, hZ2⟩ : ∃ Z, lastZ O = Z := ⟨_, rfl⟩
              rw [hZ2] at hcz
              obtain ⟨q, hq⟩ : ∃ q, O.length = q := ⟨_, rfl⟩
              have hw1 : IntKind.i64.wrap ((q : Int) - 1) = (P : Int) := by rw [IntWalk.i64_in _ (by omega)]; omega
              have hq0 : ((q : Int) == 0) = false := by simp; omega
              have hP0 : (0 : Int) ≤ (P : Int) := by omega
              have hPq : (P : Int) < q := by omega
              have hPq' : P < q := by omega
              by_cases hzz : Z = 32
              · subst hzz
                have e1 : (L.take (k + 1)).foldl step2 [] = O := by rw [hnext]; unfold step2; exact if_pos ⟨rfl, .inr hZ2⟩
                have HN := Lib.hid e1
                have HQ := Lib.hid hq
                rw [hq]
                clear e1 hnext hA7 hZ hZ2 hP h0 hq
                go_wp2
                go_roundw
                case rel => exact ⟨k + 1, by omega, by go_num, by rw [HN.out, HQ.out]; rw [HQ.out] at hown; exact hown, hbw⟩
                case measure => simp [intOf]; omega
              · have hzb : (Z == 32) = false := by simpa using hzz
                have e1 : (L.take (k + 1)).foldl step2 [] = O ++ [32] := by rw [hnext]; unfold step2; exact if_neg (fun h => h.2.elim h0 (fun h => hzz (hZ2.symm.trans h)))
                have HN := Lib.hid e1
                have HQ := Lib.hid hq
                have hownq : wr.ownsRow W2.heap.size 21 1 (.slice (some ⟨g, 0, none⟩) q c7) q (rvals O) := by rw [← hq]; exact hown
                have hqb : q ≤ 8796093022208 := by omega
                rw [hq]
                clear e1 hnext hA7 hZ hZ2 hP h0 hq
                go_wp2_with (at_builtin; refine wpl_rapp rfl (.tmp 58) (.tmp 63) 55 rfl W2.heap.size 21 i0 (.int .i32 0) Tryd.underlying55 hi0 hz0 hz1 hz2 rfl (.slice (some ⟨g, 0, none⟩) q c7) q (rvals O) rfl (hownq.alloc _) (some ⟨wr.heap.size, 0, none⟩) 1 1 [32] rfl (rns_new (by omega)) (by omega) (by simp; omega) ?_; intro v2 w2 ho hg _)
                obtain ⟨hown', hbw'⟩ := own_nextR hbw hown (zs := (L.take (k + 1)).foldl step2 []) HN.out (ys := [32]) (by rw [HQ.out]; rfl) ho hg
                clear ho hg hown hbw
                go_roundw
                case rel => exact ⟨k + 1, by omega, by go_num, hown', hbw'⟩
                case measure => simp [intOf]; omega
          · have hzb : (C == 32) = false := by simpa using hz
            have e1 : (L.take (k + 1)).foldl step2 [] = O ++ [C] := by rw [hnext]; unfold step2; exact if_neg (fun h => hz h.1)
            have HN := Lib.hid e1
            clear e1 hnext hA7
            go_wp2_with (at_builtin; refine wpl_rapp rfl (.tmp 58) (.tmp 63) 55 rfl W2.heap.size 21 i0 (.int .i32 0) Tryd.underlying55 hi0 hz0 hz1 hz2 rfl (.slice A7 O.length c7) O.length (rvals O) rfl (hown.alloc _) (some ⟨wr.heap.size, 0, none⟩) 1 1 [C] rfl (rns_new (by omega)) (by omega) (by simp; omega) ?_; intro v2 w2 ho hg _)
            obtain ⟨hown', hbw'⟩ := own_nextR hbw hown (zs := (L.take (k + 1)).foldl step2 []) HN.out (ys := [C]) rfl ho hg
            clear ho hg hown hbw
            go_roundw
            case rel => exact ⟨k + 1, by omega, by go_num, hown', hbw'⟩
            case measure => simp [intOf]; omega
        · obtain rfl : k = m := by omega
          have hall : L.take k = L := List.take_of_length_le (by rw [HM.out]; exact Nat.le_refl _)
          have hof : FitR (L.foldl step2 []) := fold2_fit _ _ HLF.out (fun x hx => by cases hx)
          have hol := fold2_len L []
          rw [hall] at hown hc71 hA7 ⊢
          obtain ⟨O, hO⟩ : ∃ O, L.foldl step2 [] = O := ⟨_, rfl⟩
          rw [hO] at hown hc71 hA7 hof hol HRES ⊢
          have hR7 := Rns.own hown hof
          have hBB := then_ HBW.out (hbw.mono (Nat.le_refl _))
          have hOn : O.length ≤ 8796093022208 := by rw [HM.out] at hol; simp at hol; omega
          clear hall hO hol hown hbw
          by_cases h0 : O = []
          · subst h0
            have hcv2 : (convert 55 9 (.slice A7 0 c7)).run Tryd.prog wr = .ok (.string ⟨(enc []).toArray⟩) wr := run_rune_str (P := Tryd.prog) _ _ 21 Tryd.underlying55 Tryd.underlying21 Tryd.underlying9 A7 0 c7 [] hR7
            have hre : enc [] = RES := by rw [← HRES.out]; rfl
            rw [hre] at hcv2
            clear hR7 hA7 hre
            go_wp2_with (simp only [hcv2])
            go_ret
            exact ⟨rfl, hBB⟩
          · obtain ⟨P, hP⟩ : ∃ P, O.length = P + 1 := ⟨O.length - 1, by have : O.length ≠ 0 := fun h => h0 (List.eq_nil_of_length_eq_zero h); omega⟩
            obtain ⟨g, rfl, hg1, hg2⟩ := hA7 P (by omega)
            have hcz : wr.cell? ⟨g, P, none⟩ = some (.int .i32 (lastZ O)) := by
              obtain ⟨b, off, e, _, hcl⟩ := hR7.2.2 (by omega)
              cases e
              have := hcl P (by omega)
              rw [Nat.zero_add] at this
              rw [this]; unfold lastZ; rw [hP, Nat.add_sub_cancel]
            obtain ⟨Z, hZ2⟩ : ∃ Z, lastZ O = Z := ⟨_, rfl⟩
            rw [hZ2] at hcz
            obtain ⟨q, hq⟩ : ∃ q, O.length = q := ⟨_, rfl⟩
            have hw1 : IntKind.i64.wrap ((q : Int) - 1) = (P : Int) := by rw [IntWalk.i64_in _ (by omega)]; omega
            have hq0 : (0 : Int) < (q : Int) := by omega
            have hP0 : (0 : Int) ≤ (P : Int) := by omega
            have hPq : (P : Int) < q := by omega
            have hPq' : P < q := by omega
            have hPc : P ≤ c7 := by omega
            have hPc' : (P : Int) ≤ c7 := by omega
            by_cases hzz : Z = 32
            · subst hzz
              have hcv2 := run_rune_str (P := Tryd.prog) 55 9 21 Tryd.underlying55 Tryd.underlying21 Tryd.underlying9 _ P c7 (O.take P) (hR7.upto (by omega))
              have hre : enc (O.take P) = RES := by rw [← HRES.out]; unfold trimZ; rw [if_pos ⟨by omega, hZ2⟩, hP, Nat.add_sub_cancel]
              rw [hre] at hcv2
              rw [hq]
              clear hR7 hA7 hre hP hZ2 h0 hq
              go_wp2_with (simp only [hcv2])
              go_ret
              exact ⟨rfl, hBB⟩
            · have hzb : (Z == 32) = false := by simpa using hzz
              have hcv2 := run_rune_str (P := Tryd.prog) 55 9 21 Tryd.underlying55 Tryd.underlying21 Tryd.underlying9 _ O.length c7 O hR7
              have hre : enc O = RES := by rw [← HRES.out]; unfold trimZ; rw [if_neg (fun h => hzz (hZ2.symm.trans h.2))]
              rw [hre, hq] at hcv2
              rw [hq]
              clear hR7 hA7 hre hP hZ2 h0 hq
              go_wp2_with (simp only [hcv2])
              go_ret
              exact ⟨rfl, hBB⟩
end Go.Proofs.YtajiolcdjjkedaaDoor.txc
