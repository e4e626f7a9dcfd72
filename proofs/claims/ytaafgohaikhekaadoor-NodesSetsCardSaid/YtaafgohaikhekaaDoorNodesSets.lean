/- The law NodesSets of warderlaw04 answers true for any two nodes, and leaves its arguments as they were; no condition but that the library's two tables are as its text lays them. -/
import Derived.Test.YtaafgohaikhekaaDoorCards
import Derived.Test.YtaafgohaikhekaaDoorTie
import Derived.WalkKit
import Derived.ProofKit
import Derived.OpenShut
import Derived.ChangeOld
import Derived.Below
import Derived.SizedLaws
import Derived.Test.YtaafgohaikhekaaDoorKb
import Derived.Test.YtaafgohaikhekaaDoorXc
import Derived.Test.YtaafgohaikhekaaDoorNdQ
import Derived.WalkLawsBesides
namespace Go.Proofs.YtaafgohaikhekaaDoor.nodesSets
open Go.ChangeShapes Go.WideShapes Go.ChangeAt Go.RowKit
set_option linter.unusedVariables false

theorem own : ownKnob Tryd.prog.godebug = none := by kernel_rfl
theorem laidOut : laidOutB Tryd.prog = true := by kernel_rfl

open Go.Proofs.YtaafgohaikhekaaDoor.tlvc Go.Proofs.YtaafgohaikhekaaDoor.tlvd Go.Proofs.YtaafgohaikhekaaDoor.txc Go.Proofs.YtaafgohaikhekaaDoor.ndc
theorem two_nodes {w : World} {g : Nat} {a b : Nd} {a0 a1 a2 b0 b1 b2 : Value} {T : TypeId} (h : w.heap[g]? = some (.cells #[a0, a1, a2, b0, b1, b2] T)) (ha : NdC (fun _ => True) w a a0 a1 a2) (hb : NdC (fun _ => True) w b b0 b1 b2) :
    NdV (fun _ => True) w (.mk 49 [] [a, b]) (.agg #[.int .u8 49, .slice none 0 0, .slice (some ⟨g, 0, none⟩) 2 2]) := by
  refine ⟨_, _, _, rfl, ?_⟩
  unfold NdC
  refine ⟨rfl, by omega, ⟨none, 0, 0, rfl, Nat.le_refl _, Nat.zero_le _, Bys.nil_ _ _, fun h => absurd h (by omega)⟩, _, 2, rfl, by simp, by unfold maxLen; decide, fun _ => ⟨g, 0, rfl, (Array.getElem?_eq_some_iff.1 h).1, trivial, ?_⟩⟩
  unfold KidsC
  refine ⟨⟨a0, a1, a2, by rw [Lib.cell_of_heap h]; rfl, by rw [Lib.cell_of_heap h]; rfl, by rw [Lib.cell_of_heap h]; rfl, ha⟩, ?_⟩
  unfold KidsC
  refine ⟨⟨b0, b1, b2, by rw [Lib.cell_of_heap h]; rfl, by rw [Lib.cell_of_heap h]; rfl, by rw [Lib.cell_of_heap h]; rfl, hb⟩, ?_⟩
  unfold KidsC
  trivial

set_option maxRecDepth 100000 in
set_option maxHeartbeats 32000000 in
theorem walk (n0 : ndc.Nd) (c0_0 c0_1 c0_2 : Value) (n1 : ndc.Nd) (c1_0 c1_1 c1_2 : Value) (w : World) (w0 : ndc.NdC (fun _ => True) w n0 c0_0 c0_1 c0_2) (w1 : ndc.NdC (fun _ => True) w n1 c1_0 c1_1 c1_2) (hT : txc.Tabs w) :
    Calls Tryd.prog 7 #[.agg #[c0_0, c0_1, c0_2], .agg #[c1_0, c1_1, c1_2]] w fun e w' => e = .returned (.bool true) ∧ Below w.heap.size w w' := by
  obtain ⟨tk, Ak, lak, cak, Kk, lkk, ckk, ec0, ec1, ec2⟩ := w0.shape
  subst ec0 ec1 ec2
  obtain ⟨tm, Am, lam, cam, Km, lkm, ckm, ed0, ed1, ed2⟩ := w1.shape
  subst ed0 ed1 ed2
  obtain ⟨W0, hW0⟩ : ∃ x, (w.alloc (.cells #[.int .u8 tk, .slice Ak lak cak, .slice Kk lkk ckk] 25)).alloc (.cells #[.int .u8 tm, .slice Am lam cam, .slice Km lkm ckm] 25) = x := ⟨_, rfl⟩
  have hz0 : w.heap.size + 2 ≤ W0.heap.size := by rw [← hW0]; simp
  have hbw : Below w.heap.size w W0 := by rw [← hW0]; exact (below_new _ _).alloc (by simp) _
  have q0 : W0.heap[w.heap.size]? = some (.cells #[.int .u8 tk, .slice Ak lak cak, .slice Kk lkk ckk] 25) := by rw [← hW0, heap_old_ _ _ (by simp)]; exact heap_new_ _ _
  have q1 : W0.heap[w.heap.size + 1]? = some (.cells #[.int .u8 tm, .slice Am lam cam, .slice Km lkm ckm] 25) := by
    rw [← hW0]
    have := heap_new_ (w.alloc (.cells #[.int .u8 tk, .slice Ak lak cak, .slice Kk lkk ckk] 25)) (.cells #[.int .u8 tm, .slice Am lam cam, .slice Km lkm ckm] 25)
    rwa [show (w.alloc (.cells #[.int .u8 tk, .slice Ak lak cak, .slice Kk lkk ckk] 25)).heap.size = w.heap.size + 1 by simp] at this
  have hna : ∀ W, Below W0.heap.size W0 W → NdC (fun _ => True) W n0 (.int .u8 tk) (.slice Ak lak cak) (.slice Kk lkk ckk) := fun W hW => NdC.below (hbw.trans (hW.mono hbw.size)) _ _ _ _ w0
  have hnb : ∀ W, Below W0.heap.size W0 W → NdC (fun _ => True) W n1 (.int .u8 tm) (.slice Am lam cam) (.slice Km lkm ckm) := fun W hW => NdC.below (hbw.trans (hW.mono hbw.size)) _ _ _ _ w1
  have hTT : ∀ W, Below W0.heap.size W0 W → Tabs W := fun W hW => hT.below (hbw.trans (hW.mono hbw.size))
  have hxa : ∀ W, Below W0.heap.size W0 W → W.cell? ⟨w.heap.size, 0, none⟩ = some (.int .u8 tk) ∧ W.cell? ⟨w.heap.size, 1, none⟩ = some (.slice Ak lak cak) ∧ W.cell? ⟨w.heap.size, 2, none⟩ = some (.slice Kk lkk ckk) := fun W hW => box_cells hW q0 (by omega)
  have hxb : ∀ W, Below W0.heap.size W0 W → W.cell? ⟨w.heap.size + 1, 0, none⟩ = some (.int .u8 tm) ∧ W.cell? ⟨w.heap.size + 1, 1, none⟩ = some (.slice Am lam cam) ∧ W.cell? ⟨w.heap.size + 1, 2, none⟩ = some (.slice Km lkm ckm) := fun W hW => box_cells hW q1 (by omega)
  have HNA := Lib.hid hna
  have HNB := Lib.hid hnb
  have HT := Lib.hid hTT
  have HXA := Lib.hid hxa
  have HXB := Lib.hid hxb
  have HBW := Lib.hid hbw
  clear hna hnb hTT hxa hxb q0 q1 hbw w0 w1 hT hz0
  obtain ⟨PA, hPA⟩ : ∃ p, partsF n0 5000 = p := ⟨_, rfl⟩
  obtain ⟨PB, hPB⟩ : ∃ p, partsF n1 5000 = p := ⟨_, rfl⟩
  have hpar := fun (W : World) (hW : Below W0.heap.size W0 W) => parts_of _ n0 (Nat.le_refl _) (.agg #[.int .u8 tk, .slice Ak lak cak, .slice Kk lkk ckk]) 5000 W ⟨_, _, _, rfl, HNA.out W hW⟩ (by omega) (by omega)
  have hpbr := fun (W : World) (hW : Below W0.heap.size W0 W) => parts_of _ n1 (Nat.le_refl _) (.agg #[.int .u8 tm, .slice Am lam cam, .slice Km lkm ckm]) 5000 W ⟨_, _, _, rfl, HNB.out W hW⟩ (by omega) (by omega)
  rw [hPA] at hpar
  rw [hPB] at hpbr
  have HPA := Lib.hid hpar
  have HPB := Lib.hid hpbr
  clear hPA hpar hPB hpbr
  go_enter Tryd.func7, Tryd.ntmps7
  go_wp2_with fail
  refine (head_any _ (HT.out _ (Below.refl _ _))).mono ?_
  rintro e wa ⟨rfl, hba⟩
  clear hW0
  obtain ⟨ka0, ka1, ka2⟩ := HXA.out _ hba
  have hpr := print_any n0 _ (.agg #[.int .u8 tk, .slice Ak lak cak, .slice Kk lkk ckk]) _ ⟨_, _, _, rfl, HNA.out _ hba⟩ (HT.out _ hba)
  obtain ⟨RA, hRA⟩ : ∃ r, writeF n0 0 = r := ⟨_, rfl⟩
  rw [hRA] at hpr
  have hne0 := errW_ne (szN n0) n0 0
  have HPR := Lib.hid hpr
  have HRA := Lib.hid hRA
  have HNEA := Lib.hid hne0
  clear hpr hne0 hRA
  go_wp2_with fail
  refine HPR.out.mono ?_
  rintro e wc ⟨hbc, hpost⟩
  have hB2 := below_then hba hbc (Nat.le_refl _)
  clear ka0 ka1 ka2 HPR hbc hba
  cases RA with
  | no erA =>
    have hpost : e = .returned (.tuple #[.slice none 0 0, .int .i64 erA]) := hpost
    subst hpost
    have herA := HNEA.out erA (Nat.le_refl _) HRA.out
    have herbA : (erA == 0) = false := by simpa using herA
    obtain ⟨ka0, ka1, ka2⟩ := HXB.out _ hB2
    have hpr := print_any n1 _ (.agg #[.int .u8 tm, .slice Am lam cam, .slice Km lkm ckm]) _ ⟨_, _, _, rfl, HNB.out _ hB2⟩ (HT.out _ hB2)
    obtain ⟨RB, hRB⟩ : ∃ r, writeF n1 0 = r := ⟨_, rfl⟩
    rw [hRB] at hpr
    have hne0 := errW_ne (szN n1) n1 0
    have HPR := Lib.hid hpr
    have HRB := Lib.hid hRB
    have HNEB := Lib.hid hne0
    clear hpr hne0 hRB
    go_wp2_with fail
    refine HPR.out.mono ?_
    rintro e wd ⟨hbc, hpost⟩
    have hB3 := below_then hB2 hbc (Nat.le_refl _)
    clear ka0 ka1 ka2 HPR hbc hB2
    cases RB with
    | no erB =>
      have hpost : e = .returned (.tuple #[.slice none 0 0, .int .i64 erB]) := hpost
      subst hpost
      have herB := HNEB.out erB (Nat.le_refl _) HRB.out
      have herbB : (erB == 0) = false := by simpa using herB
      obtain ⟨ka0, ka1, ka2⟩ := HXA.out _ hB3
      obtain ⟨kb0, kb1, kb2⟩ := HXB.out _ hB3
      go_wp2_with fail
      refine (HPA.out _ hB3).mono ?_
      rintro e wp ⟨rfl, hbp⟩
      have hB5 := below_then hB3 hbp (Nat.le_refl _)
      clear ka0 ka1 ka2 kb0 kb1 kb2 hbp hB3
      by_cases hpa : 5000 < PA
      · have hend := HBW.out.trans (hB5.mono HBW.out.size)
        have HEND := Lib.hid hend
        clear hend hB5
        go_wp2
        go_ret
        exact ⟨rfl, HEND.out⟩
      · obtain ⟨ka0, ka1, ka2⟩ := HXA.out _ hB5
        obtain ⟨kb0, kb1, kb2⟩ := HXB.out _ hB5
        go_wp2_with fail
        refine (HPB.out _ hB5).mono ?_
        rintro e wq ⟨rfl, hbq⟩
        have hB6 := below_then hB5 hbq (Nat.le_refl _)
        clear ka0 ka1 ka2 kb0 kb1 kb2 hbq hB5
        by_cases hpb : 5000 < PB
        · have hend := HBW.out.trans (hB6.mono HBW.out.size)
          have HEND := Lib.hid hend
          clear hend hB6
          go_wp2
          go_ret
          exact ⟨rfl, HEND.out⟩
        · have hend := HBW.out.trans (hB6.mono HBW.out.size)
          have HEND := Lib.hid hend
          clear hend hB6
          go_wp2
          go_ret
          exact ⟨rfl, HEND.out⟩
    | ok y =>
      obtain ⟨AB, cy, rfl, hbysB, hlcB, _⟩ := hpost
      clear hbysB
      obtain ⟨ka0, ka1, ka2⟩ := HXA.out _ hB3
      obtain ⟨kb0, kb1, kb2⟩ := HXB.out _ hB3
      go_wp2_with fail
      refine (HPA.out _ hB3).mono ?_
      rintro e wp ⟨rfl, hbp⟩
      have hB5 := below_then hB3 hbp (Nat.le_refl _)
      clear ka0 ka1 ka2 kb0 kb1 kb2 hbp hB3
      by_cases hpa : 5000 < PA
      · have hend := HBW.out.trans (hB5.mono HBW.out.size)
        have HEND := Lib.hid hend
        clear hend hB5
        go_wp2
        go_ret
        exact ⟨rfl, HEND.out⟩
      · obtain ⟨ka0, ka1, ka2⟩ := HXA.out _ hB5
        obtain ⟨kb0, kb1, kb2⟩ := HXB.out _ hB5
        go_wp2_with fail
        refine (HPB.out _ hB5).mono ?_
        rintro e wq ⟨rfl, hbq⟩
        have hB6 := below_then hB5 hbq (Nat.le_refl _)
        clear ka0 ka1 ka2 kb0 kb1 kb2 hbq hB5
        by_cases hpb : 5000 < PB
        · have hend := HBW.out.trans (hB6.mono HBW.out.size)
          have HEND := Lib.hid hend
          clear hend hB6
          go_wp2
          go_ret
          exact ⟨rfl, HEND.out⟩
        · have hend := HBW.out.trans (hB6.mono HBW.out.size)
          have HEND := Lib.hid hend
          clear hend hB6
          go_wp2
          go_ret
          exact ⟨rfl, HEND.out⟩
  | ok x =>
    obtain ⟨AA, cx, rfl, hbysA, hlcA, _⟩ := hpost
    have hBX : ∀ W, Below wc.heap.size wc W → Bys W AA x.length x := fun W hW => hbysA.below hW
    have hsc := hB2.size
    have HBX0 := Lib.hid hBX
    have hBc : ∀ W, Below wc.heap.size wc W → Below W0.heap.size W0 W := fun W hW => below_then hB2 hW (Nat.le_refl _)
    clear hbysA hBX
    obtain ⟨ka0, ka1, ka2⟩ := HXB.out _ hB2
    have hpr := print_any n1 _ (.agg #[.int .u8 tm, .slice Am lam cam, .slice Km lkm ckm]) _ ⟨_, _, _, rfl, HNB.out _ hB2⟩ (HT.out _ hB2)
    obtain ⟨RB, hRB⟩ : ∃ r, writeF n1 0 = r := ⟨_, rfl⟩
    rw [hRB] at hpr
    have hne0 := errW_ne (szN n1) n1 0
    have HPR := Lib.hid hpr
    have HRB := Lib.hid hRB
    have HNEB := Lib.hid hne0
    clear hpr hne0 hRB
    go_wp2_with fail
    refine HPR.out.mono ?_
    rintro e wd ⟨hbc, hpost⟩
    have hB3 := below_then hB2 hbc (Nat.le_refl _)
    have hbx3 := HBX0.out _ hbc
    clear ka0 ka1 ka2 HPR hbc hB2
    clear HBX0 hBc
    cases RB with
    | no erB =>
      clear hbx3
      have hpost : e = .returned (.tuple #[.slice none 0 0, .int .i64 erB]) := hpost
      subst hpost
      have herB := HNEB.out erB (Nat.le_refl _) HRB.out
      have herbB : (erB == 0) = false := by simpa using herB
      obtain ⟨ka0, ka1, ka2⟩ := HXA.out _ hB3
      obtain ⟨kb0, kb1, kb2⟩ := HXB.out _ hB3
      go_wp2_with fail
      refine (HPA.out _ hB3).mono ?_
      rintro e wp ⟨rfl, hbp⟩
      have hB5 := below_then hB3 hbp (Nat.le_refl _)
      clear ka0 ka1 ka2 kb0 kb1 kb2 hbp hB3
      by_cases hpa : 5000 < PA
      · have hend := HBW.out.trans (hB5.mono HBW.out.size)
        have HEND := Lib.hid hend
        clear hend hB5
        go_wp2
        go_ret
        exact ⟨rfl, HEND.out⟩
      · obtain ⟨ka0, ka1, ka2⟩ := HXA.out _ hB5
        obtain ⟨kb0, kb1, kb2⟩ := HXB.out _ hB5
        go_wp2_with fail
        refine (HPB.out _ hB5).mono ?_
        rintro e wq ⟨rfl, hbq⟩
        have hB6 := below_then hB5 hbq (Nat.le_refl _)
        clear ka0 ka1 ka2 kb0 kb1 kb2 hbq hB5
        by_cases hpb : 5000 < PB
        · have hend := HBW.out.trans (hB6.mono HBW.out.size)
          have HEND := Lib.hid hend
          clear hend hB6
          go_wp2
          go_ret
          exact ⟨rfl, HEND.out⟩
        · have hend := HBW.out.trans (hB6.mono HBW.out.size)
          have HEND := Lib.hid hend
          clear hend hB6
          go_wp2
          go_ret
          exact ⟨rfl, HEND.out⟩
    | ok y =>
      obtain ⟨AB, cy, rfl, hbysB, hlcB, _⟩ := hpost
      have hlx := hlcA.1
      have hly := hlcB.1
      have hmx : x.length ≤ 65539 := writeF_len HRA.out
      have hmy : y.length ≤ 65539 := writeF_len HRB.out
      have HBX3 := Lib.hid hbx3
      have HBY3 := Lib.hid hbysB
      clear hbx3 hbysB hlcA hlcB
      obtain ⟨ka0, ka1, ka2⟩ := HXA.out _ hB3
      obtain ⟨kb0, kb1, kb2⟩ := HXB.out _ hB3
      go_wp2_with fail
      refine (HPA.out _ hB3).mono ?_
      rintro e wp ⟨rfl, hbp⟩
      have hB5 := below_then hB3 hbp (Nat.le_refl _)
      have hx5 := HBX3.out.below hbp
      have hy5 := HBY3.out.below hbp
      have HX5 := Lib.hid hx5
      have HY5 := Lib.hid hy5
      clear hx5 hy5
      clear ka0 ka1 ka2 kb0 kb1 kb2 hbp hB3
      by_cases hpa : 5000 < PA
      · have hend := HBW.out.trans (hB5.mono HBW.out.size)
        have HEND := Lib.hid hend
        clear hend hB5
        go_wp2
        go_ret
        exact ⟨rfl, HEND.out⟩
      · obtain ⟨ka0, ka1, ka2⟩ := HXA.out _ hB5
        obtain ⟨kb0, kb1, kb2⟩ := HXB.out _ hB5
        go_wp2_with fail
        refine (HPB.out _ hB5).mono ?_
        rintro e wq ⟨rfl, hbq⟩
        have hB6 := below_then hB5 hbq (Nat.le_refl _)
        have hx6 := HX5.out.below hbq
        have hy6 := HY5.out.below hbq
        have HX6 := Lib.hid hx6
        have HY6 := Lib.hid hy6
        clear hx6 hy6
        clear ka0 ka1 ka2 kb0 kb1 kb2 hbq hB5
        by_cases hpb : 5000 < PB
        · have hend := HBW.out.trans (hB6.mono HBW.out.size)
          have HEND := Lib.hid hend
          clear hend hB6
          go_wp2
          go_ret
          exact ⟨rfl, HEND.out⟩
        · by_cases hlen : 30000 < x.length + y.length
          · have hlz : (30000 : Int) < (x.length : Int) + (y.length : Int) := by omega
            have hwl : IntKind.i64.wrap ((x.length : Int) + (y.length : Int)) = (x.length : Int) + (y.length : Int) := IntWalk.i64_in _ (by omega)
            have hend := HBW.out.trans (hB6.mono HBW.out.size)
            have HEND := Lib.hid hend
            clear hend hB6
            go_wp2
            go_ret
            exact ⟨rfl, HEND.out⟩
          · have hlz : ¬ (30000 : Int) < (x.length : Int) + (y.length : Int) := by omega
            have hwl : IntKind.i64.wrap ((x.length : Int) + (y.length : Int)) = (x.length : Int) + (y.length : Int) := IntWalk.i64_in _ (by omega)
            obtain ⟨ka0, ka1, ka2⟩ := HXA.out _ hB6
            obtain ⟨kb0, kb1, kb2⟩ := HXB.out _ hB6
            go_wp2_with fail
            obtain ⟨W7, hW7⟩ : ∃ z, wq.alloc (.cells #[.int .u8 tk, .slice Ak lak cak, .slice Kk lkk ckk, .int .u8 tm, .slice Am lam cam, .slice Km lkm ckm] 25) = z := ⟨_, rfl⟩
            have hB7 : Below W0.heap.size W0 W7 := by rw [← hW7]; exact below_then hB6 (below_new _ _) (Nat.le_refl _)
            have hq67 : Below wq.heap.size wq W7 := by rw [← hW7]; exact below_new _ _
            have hq7 : W7.heap[wq.heap.size]? = some (.cells #[.int .u8 tk, .slice Ak lak cak, .slice Kk lkk ckk, .int .u8 tm, .slice Am lam cam, .slice Km lkm ckm] 25) := by rw [← hW7]; exact heap_new_ _ _
            have hv7 : NdV (fun _ => True) W7 (.mk 49 [] [n0, n1]) (.agg #[.int .u8 49, .slice none 0 0, .slice (some ⟨wq.heap.size, 0, none⟩) 2 2]) := two_nodes hq7 (HNA.out _ hB7) (HNB.out _ hB7)
            have hck := check_any (.mk 49 [] [n0, n1]) _ _ W7 hv7 (HT.out _ hB7)
            obtain ⟨g, hg⟩ : ∃ z, errW (writeF (.mk 49 [] [n0, n1]) 0) = z := ⟨_, rfl⟩
            rw [hg] at hck
            have HCK := Lib.hid hck
            have HG := Lib.hid hg
            clear ka0 ka1 ka2 kb0 kb1 kb2 hv7 hq7 hck hg hB6
            rw [hW7]
            clear hW7
            refine HCK.out.mono ?_
            rintro e w8 ⟨rfl, hb8⟩
            have hB8 := below_then hB7 hb8 (Nat.le_refl _)
            have hq68 := below_then hq67 hb8 (Nat.le_refl _)
            clear HCK hb8 hB7 hq67
            obtain ⟨ka0, ka1, ka2⟩ := HXA.out _ hB8
            obtain ⟨kb0, kb1, kb2⟩ := HXB.out _ hB8
            go_wp2_with fail
            obtain ⟨W9, hW9⟩ : ∃ z, w8.alloc (.cells #[.int .u8 tm, .slice Am lam cam, .slice Km lkm ckm, .int .u8 tk, .slice Ak lak cak, .slice Kk lkk ckk] 25) = z := ⟨_, rfl⟩
            have hB9 : Below W0.heap.size W0 W9 := by rw [← hW9]; exact below_then hB8 (below_new _ _) (Nat.le_refl _)
            have hq69 : Below wq.heap.size wq W9 := by rw [← hW9]; exact below_then hq68 (below_new _ _) (Nat.le_refl _)
            have hq9 : W9.heap[w8.heap.size]? = some (.cells #[.int .u8 tm, .slice Am lam cam, .slice Km lkm ckm, .int .u8 tk, .slice Ak lak cak, .slice Kk lkk ckk] 25) := by rw [← hW9]; exact heap_new_ _ _
            have hv9 : NdV (fun _ => True) W9 (.mk 49 [] [n1, n0]) (.agg #[.int .u8 49, .slice none 0 0, .slice (some ⟨w8.heap.size, 0, none⟩) 2 2]) := two_nodes hq9 (HNB.out _ hB9) (HNA.out _ hB9)
            have hck := check_any (.mk 49 [] [n1, n0]) _ _ W9 hv9 (HT.out _ hB9)
            obtain ⟨h, hh⟩ : ∃ z, errW (writeF (.mk 49 [] [n1, n0]) 0) = z := ⟨_, rfl⟩
            rw [hh] at hck
            have HCK := Lib.hid hck
            have HH := Lib.hid hh
            clear ka0 ka1 ka2 kb0 kb1 kb2 hv9 hq9 hck hh hB8 hq68
            rw [hW9]
            clear hW9
            refine HCK.out.mono ?_
            rintro e w10 ⟨rfl, hb10⟩
            have hB10 := below_then hB9 hb10 (Nat.le_refl _)
            have hqz := below_then hq69 hb10 (Nat.le_refl _)
            clear HCK hb10 hB9 hq69
            have sx := txc.str_now (HX6.out.below hqz) cx
            have sy := txc.str_now (HY6.out.below hqz) cy
            have hend := HBW.out.trans (hB10.mono HBW.out.size)
            have HEND := Lib.hid hend
            have hupx := write_up (szN n0) n0 0 x (Nat.le_refl _) HRA.out
            have hupy := write_up (szN n1) n1 0 y (Nat.le_refl _) HRB.out
            have hfx : Fit x := (HX6.out.below hqz).2.1
            have hfy : Fit y := (HY6.out.below hqz).2.1
            clear hend hB10 hqz
            have deepcase : (writeF n0 1 = .no 41 ∨ writeF n1 1 = .no 41) ∨ (writeF n0 1 = .ok x ∧ writeF n1 1 = .ok y) := by
              rcases hupx with h1 | h1
              · rcases hupy with h2 | h2
                · exact .inr ⟨h1, h2⟩
                · exact .inl (.inr h2)
              · exact .inl (.inl h1)
            rcases deepcase with hd | ⟨h1, h2⟩
            · have e1 : g = 41 := by rw [← HG.out]; exact set_deep hupx hupy hd
              have e2 : h = 41 := by rw [← HH.out]; exact set_deep hupy hupx hd.symm
              clear hupx hupy hd HG HH hfx hfy
              subst e1 e2
              go_wp2
              go_ret
              exact ⟨rfl, HEND.out⟩
            · have e1 : g = if behind x y = true then 42 else 0 := by rw [← HG.out]; exact set_two h1 h2 (by omega)
              have e2 : h = if behind y x = true then 42 else 0 := by rw [← HH.out]; exact set_two h2 h1 (by omega)
              have b1 : (!(Op.bytesLess (strOfNums x).toList (strOfNums y).toList || (strOfNums x).toList == (strOfNums y).toList)) = behind x y := by unfold behind; rw [Lib.strOfNums_toList, Lib.strOfNums_toList]; exact gt8_string _ _
              have b2 : (!(Op.bytesLess (strOfNums y).toList (strOfNums x).toList || (strOfNums y).toList == (strOfNums x).toList)) = behind y x := by unfold behind; rw [Lib.strOfNums_toList, Lib.strOfNums_toList]; exact gt8_string _ _
              obtain ⟨X, hX⟩ : ∃ z, strOfNums x = z := ⟨_, rfl⟩
              obtain ⟨Y, hY⟩ : ∃ z, strOfNums y = z := ⟨_, rfl⟩
              rw [hX, hY] at b1 b2
              rw [hX] at sx
              rw [hY] at sy
              rw [← b1] at e1
              rw [← b2] at e2
              clear hupx hupy h1 h2 HG HH hfx hfy b1 b2 hX hY
              have hsy : (Y.toList == X.toList) = (X.toList == Y.toList) := Bool.beq_comm
              rw [hsy] at e2
              obtain ⟨l1, hl1⟩ : ∃ z, Op.bytesLess X.toList Y.toList = z := ⟨_, rfl⟩
              obtain ⟨l2, hl2⟩ : ∃ z, Op.bytesLess Y.toList X.toList = z := ⟨_, rfl⟩
              obtain ⟨q, hq⟩ : ∃ z, (X.toList == Y.toList) = z := ⟨_, rfl⟩
              rw [hq] at hsy
              rw [hl1, hq] at e1
              rw [hl2, hq] at e2
              cases l1 <;> cases l2 <;> cases q <;> simp at e1 e2 <;> subst e1 e2
              all_goals
                first
                  | (have n1 : ¬ X.toList = Y.toList := by simpa using hq
                     have n2 : ¬ Y.toList = X.toList := fun h => n1 h.symm
                     go_wp2
                     go_ret
                     exact ⟨rfl, HEND.out⟩)
                  | (have n1 : X.toList = Y.toList := by simpa using hq
                     have n2 : Y.toList = X.toList := n1.symm
                     have N1 := Lib.hid n1
                     clear n1 n2
                     go_wp2
                     go_ret
                     exact ⟨rfl, HEND.out⟩)

theorem reads (os : Os) {H : Type} (enc : TypeId × Value → H) : ∃ places, DataW.whole enc Tryd.prog ((txc.laidWorld os).forCall (fun _ _ => 0) ⟨#[], #[.agg #[.int .u8 0, .slice none 0 0, .slice none 0 0], .agg #[.int .u8 0, .slice none 0 0, .slice none 0 0]], []⟩).memory Tryd.f7.params.toList Rows.nodesSetsSpec.vars false (#[.agg #[.int .u8 0, .slice none 0 0, .slice none 0 0], .agg #[.int .u8 0, .slice none 0 0, .slice none 0 0]] : Array Value).toList 8 = some ([.agg [.lit (.int .u8 0), .nil, .nil], .agg [.lit (.int .u8 0), .nil, .nil]], [], places) :=
  ⟨[], by kernel_rfl⟩
set_option maxRecDepth 100000 in
theorem lifted (os : Os) (started : os.Started) (H : Type) (enc : TypeId × Value → H) (F : Stop.Interp) :
    ReturnsInHanded {} Tryd.checked os 7 .any ((OpenSpec.ofChange Rows.nodesSetsSpec).preRow enc Tryd.prog Tryd.f7 Rows.nodesSetsRow.domain false Rows.nodesSetsRow.laid) (((OpenSpec.ofChange Rows.nodesSetsSpec).at F).post enc Tryd.prog Tryd.f7 false true false false) := by
  obtain ⟨places, hx⟩ := reads os enc
  refine returnsInHanded_of_row (C := Tryd.checked) (s := (OpenSpec.ofChange Rows.nodesSetsSpec)) own started (by kernel_rfl) Tryd.func7
    (witness_row_at (enc := enc) (C := Tryd.checked) false (txc.laidWorld os) #[.agg #[.int .u8 0, .slice none 0 0, .slice none 0 0], .agg #[.int .u8 0, .slice none 0 0, .slice none 0 0]] rfl (by kernel_rfl) (by kernel_rfl) (by kernel_rfl)
      (OpenSpec.preRow_of_cond 8 hx (by kernel_rfl) (fun k hk => by cases hk) (by kernel_rfl) (txc.laid_met os _))) ?_
  intro W base args ds gs before hval0 hW hcnd hcond hsz0 hL _ _
  have hval : ∀ (j : Nat) t v, Tryd.f7.params[j]? = some t → args[j]? = some v → Value.okWide Tryd.prog W .any base t v := hval0
  have hW' := hW
  obtain ⟨p, q, hA0, hV, rfl, hfz, hnd⟩ := hW
  have hA : DataW.TrodAll enc Tryd.prog W 0 (fun _ => true) true Tryd.f7.params.toList args.toList ds p := hA0
  have hsz : (DataW.weightsEach Tryd.prog (Tryd.f7.params.toList ++ (OpenSpec.ofChange Rows.nodesSetsSpec).bare.plain.varTypes Tryd.prog) (ds ++ gs)).all (· ≤ reachBytes) = true := hsz0
  rw [Tryd.params7] at hA hval hsz
  obtain ⟨v0, vs0, d0, ds0, p0, q0, hargs, rfl, rfl, h0, r_0⟩ := trodAll_cons hA
  obtain ⟨v1, vs1, d1, ds1, p1, q1, rfl, rfl, rfl, h1, r_1⟩ := trodAll_cons r_0
  obtain ⟨rfl, rfl, rfl⟩ := trodAll_nil r_1
  obtain rfl : args = #[v0, v1] := by cases args; simp_all
  obtain ⟨rfl, rfl⟩ := trodVars_none hV
  have k0 := h0
  have lt0 : ∀ x ∈ p0, x.block < W.heap.size := by obtain ⟨m, hm⟩ := k0; exact DataW.trod_lt m _ _ _ hm
  obtain ⟨n0, c0_0, c0_1, c0_2, rfl, w0⟩ := ndc.open_nd ({ U := _, f0 := _, f1 := _, f2 := _, hT := Tryd.underlying25, hone := by kernel_rfl, hC := by kernel_rfl, e0 := Tryd.underlying5, e1 := Tryd.underlying22, eU := Tryd.underlying5, cU := by kernel_rfl, e2 := Tryd.underlying23 }) (hval 0 25 v0 rfl rfl) h0
  have k1 := h1
  have lt1 : ∀ x ∈ p1, x.block < W.heap.size := by obtain ⟨m, hm⟩ := k1; exact DataW.trod_lt m _ _ _ hm
  obtain ⟨n1, c1_0, c1_1, c1_2, rfl, w1⟩ := ndc.open_nd ({ U := _, f0 := _, f1 := _, f2 := _, hT := Tryd.underlying25, hone := by kernel_rfl, hC := by kernel_rfl, e0 := Tryd.underlying5, e1 := Tryd.underlying22, eU := Tryd.underlying5, cU := by kernel_rfl, e2 := Tryd.underlying23 }) (hval 1 25 v1 rfl rfl) h1
  clear hA0 hval0
  have hT : txc.Tabs W := txc.tabs_of hL
  refine (walk n0 c0_0 c0_1 c0_2 n1 c1_0 c1_1 c1_2 W w0 w1 hT).mono fun e W' ⟨he, bel⟩ => ?_
  subst he
  exact ⟨_, rfl, _, _, _, [], _, [], hW', trodAll_mk1 (shut_bool Tryd.underlying4 _), (trodAll_cons_mk (Below.trod laidOut (by kernel_rfl) (of_decide_eq_true (by kernel_rfl)) k0 bel lt0) (trodAll_cons_mk (Below.trod laidOut (by kernel_rfl) (of_decide_eq_true (by kernel_rfl)) k1 bel lt1) trodAll_mk0)), rfl, bel.frame _, fun h => by cases h⟩

theorem over : Rows.nodesSetsRow.holds Tryd.pinned (OpenSpec.ofChange Rows.nodesSetsSpec) :=
  OpenClaim.holds_of_cond 7 Tryd.f7 rfl rfl rfl rfl rfl rfl rfl ⟨rfl, rfl, rfl, rfl, rfl⟩ rfl rfl rfl rfl rfl (by kernel_rfl) Tryd.func7 (by kernel_rfl)
    (of_decide_eq_true (by kernel_rfl)) (by unfold Func.isWrapper; first | (rw [if_pos (by decide +kernel)]; kernel_rfl) | (rw [if_neg (by decide +kernel)]; exact ⟨rfl, rfl⟩))
    (fun os started H enc _ F => by rw [OpenClaim.pre_eq_preRow]; exact lifted os started H enc F)

theorem plain (f : FuncId) (fn : Func) (hf : Tryd.pinned.checked.prog.funcNamed "warder/warderlaw04.NodesSets" = some f) (hfn : Tryd.pinned.checked.prog.funcs[f]? = some fn) :
    true = Tryd.pinned.checked.prog.looks [] ∧ ∀ (j : Nat) t, fn.params[j]? = some t → Tryd.pinned.checked.prog.wantsStandIn t = false := by
  obtain rfl : f = 7 := Option.some.inj ((show Tryd.prog.funcNamed "warder/warderlaw04.NodesSets" = some 7 by kernel_rfl).symm.trans hf) |>.symm
  obtain rfl : fn = Tryd.f7 := (Option.some.inj (Tryd.func7.symm.trans hfn)).symm
  refine ⟨by kernel_rfl, fun j t ht => ?_⟩
  rw [Tryd.params7] at ht
  match j, ht with
    | 0, ht => obtain rfl : t = 25 := (Option.some.inj ht).symm; exact (show Tryd.prog.wantsStandIn 25 = false by kernel_rfl)
    | 1, ht => obtain rfl : t = 25 := (Option.some.inj ht).symm; exact (show Tryd.prog.wantsStandIn 25 = false by kernel_rfl)
    | j + 2, ht => simp at ht

theorem proved : Rows.NodesSetsCardSaid :=
  Claim7.holds_tied_plain_at .later [] _ _ _ _ over (fun _ h => by cases h) (by kernel_rfl) (fun _ h => by cases h) nodesSets_row_tie rfl ⟨rfl, rfl⟩ (by kernel_rfl) rfl plain (by kernel_rfl)
#print axioms proved
end Go.Proofs.YtaafgohaikhekaaDoor.nodesSets
