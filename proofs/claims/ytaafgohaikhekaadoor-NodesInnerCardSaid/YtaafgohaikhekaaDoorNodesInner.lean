/- The law NodesInner of warderlaw04 answers true for any nodes, every tag and every number, and leaves its arguments as they were; no condition but that the library's two tables are as its text lays them. -/
import Derived.Test.YtaafgohaikhekaaDoorCards
import Derived.Test.YtaafgohaikhekaaDoorTie
import Derived.WalkKit
import Derived.ProofKit
import Derived.OpenShut
import Derived.ChangeOld
import Derived.Below
import Derived.SizedLaws
import Derived.Test.YtaafgohaikhekaaDoorKb
import Derived.Test.YtaafgohaikhekaaDoorXc
import Derived.Test.YtaafgohaikhekaaDoorNdDp
import Derived.StillTailTactics
namespace Go.Proofs.YtaafgohaikhekaaDoor.nodesInner
open Go.ChangeShapes Go.WideShapes Go.ChangeAt Go.RowKit
set_option linter.unusedVariables false

theorem own : ownKnob Tryd.prog.godebug = none := by kernel_rfl
theorem laidOut : laidOutB Tryd.prog = true := by kernel_rfl

open Go.Proofs.YtaafgohaikhekaaDoor.tlvc Go.Proofs.YtaafgohaikhekaaDoor.tlvd Go.Proofs.YtaafgohaikhekaaDoor.txc Go.Proofs.YtaafgohaikhekaaDoor.ndc
theorem writeL_mem {o : Nat} : ∀ (ns : List Nd) (k k' : WK), writeL ns o k = .ok k' → ∀ n ∈ ns, ∃ b, writeF n o = .ok b
  | [], _, _, _, n, hn => absurd hn (by simp)
  | m :: ns, k, k', h, n, hn => by
    unfold writeL at h
    cases hw : writeF m o with
    | no e => rw [hw] at h; cases h
    | ok b =>
      rw [hw] at h
      rcases List.mem_cons.1 hn with rfl | hn
      · exact ⟨b, hw⟩
      · exact writeL_mem ns _ _ h n hn
theorem kids_right {T : Int} {ks : List Nd} {b : List Int} (hc : compB T = true) (h : writeF (.mk T [] ks) 0 = .ok b) : ∀ n ∈ ks, ∃ c, writeF n 0 = .ok c := by
  obtain ⟨ha, he, hcase⟩ := writeF_ok h
  rcases hcase with ⟨hc', _⟩ | ⟨_, _, k, hw, _⟩
  · rw [hc] at hc'; cases hc'
  · intro n hn
    obtain ⟨c, hcw⟩ := writeL_mem ks _ _ hw n hn
    exact ⟨c, write_down _ n 0 c (Nat.le_refl _) hcw⟩

set_option maxRecDepth 100000 in
set_option maxHeartbeats 32000000 in
theorem walk (a0 : Option Addr) (len0 cap0 : Nat) (x0 : List ndc.Nd) (a1 : Int) (a2 : Int) (w : World) (e0 : x0.length = len0) (w0 : ndc.Nds w a0 x0) (l0 : len0 ≤ cap0) (m0 : cap0 ≤ maxLen) (r0 : cap0 ≤ 140737488351232) (w1 : (Lit.int .u8 a1).wf = true) (w2 : (Lit.int .u32 a2).wf = true) (hT : txc.Tabs w) :
    Calls Tryd.prog 6 #[.slice a0 len0 cap0, .int .u8 a1, .int .u32 a2] w fun e w' => e = .returned (.bool true) ∧ Below w.heap.size w w' := by
  have u1 : 0 ≤ a1 ∧ a1 ≤ 255 := bounds_u8 w1
  have u2 : 0 ≤ a2 ∧ a2 ≤ 4294967295 := bounds_u32 w2
  subst e0
  obtain ⟨y, hy⟩ : ∃ y, a1 % 32 = y := ⟨_, rfl⟩
  have hyb : 0 ≤ y ∧ y ≤ 31 := by omega
  have hor := or_160 hyb.1 hyb.2
  obtain ⟨T, hT1⟩ : ∃ T, y + 160 = T := ⟨_, rfl⟩
  rw [hT1] at hor
  have hT0 : 0 ≤ T ∧ T ≤ 255 := by omega
  have hcomp : compB T = true := by rw [← hT1]; exact comp_big hyb.1 hyb.2
  clear hT1
  obtain ⟨nl, hnl⟩ : ∃ z, x0.length = z := ⟨_, rfl⟩
  have hn9 : cap0 ≤ 9223372036854775807 := by unfold maxLen at m0; omega
  have hall : ∀ W, Below w.heap.size w W → NdC (fun _ => True) W (.mk T [] x0) (.int .u8 T) (.slice none 0 0) (.slice a0 nl cap0) := fun W hW => by
    rw [← hnl]
    unfold NdC
    refine ⟨rfl, hT0, ⟨none, 0, 0, rfl, Nat.le_refl _, Nat.zero_le _, Bys.nil_ _ _, fun h => absurd h (by omega)⟩, a0, cap0, rfl, l0, m0, fun hn => ?_⟩
    obtain ⟨g, off, e, hg, hk⟩ := w0 hn
    exact ⟨g, off, e, Nat.lt_of_lt_of_le hg hW.size, trivial, KidsC.below hW hg trivial x0 off hk⟩
  have hkr : ∀ b, writeF (.mk T [] x0) 0 = .ok b → ∀ n ∈ x0, ∃ c, writeF n 0 = .ok c := fun b h => kids_right hcomp h
  have hne := errW_ne (szN (.mk T [] x0)) (.mk T [] x0) 0
  have HALL := Lib.hid hall
  have HT := Lib.hid hT
  have HW0 := Lib.hid w0
  have HKR := Lib.hid hkr
  have HNE := Lib.hid hne
  rw [hnl] at l0 ⊢
  have HNL := Lib.hid hnl
  clear hall hT w0 hkr hne hnl r0 m0
  go_enter Tryd.func6, Tryd.ntmps6
  go_wp2_with fail
  refine (head_any _ HT.out).mono ?_
  rintro e wa ⟨rfl, hba⟩
  obtain ⟨W1, hW1⟩ : ∃ z, wa.alloc (.cells #[.int .u8 T, .slice none 0 0, .slice a0 nl cap0] 25) = z := ⟨_, rfl⟩
  have hB1 : Below w.heap.size w W1 := by rw [← hW1]; exact hba.alloc hba.size _
  have hpr := print_any (.mk T [] x0) _ (.agg #[.int .u8 T, .slice none 0 0, .slice a0 nl cap0]) W1 ⟨_, _, _, rfl, HALL.out _ hB1⟩ (HT.out.below hB1)
  have hbx1 : ∀ W, Below W1.heap.size W1 W → W.cell? ⟨wa.heap.size, 0, none⟩ = some (.int .u8 T) ∧ W.cell? ⟨wa.heap.size, 1, none⟩ = some (.slice none 0 0) ∧ W.cell? ⟨wa.heap.size, 2, none⟩ = some (.slice a0 nl cap0) := fun W hW => box_cells hW (by rw [← hW1]; exact box_new _ _ _ _ _) (by rw [← hW1]; simp)
  obtain ⟨R, hR⟩ : ∃ z, writeF (.mk T [] x0) 0 = z := ⟨_, rfl⟩
  rw [hR] at hpr
  have HPR := Lib.hid hpr
  have HR := Lib.hid hR
  have HBX1 := Lib.hid hbx1
  obtain ⟨j0, j1, j2⟩ := hbx1 _ (Below.refl _ _)
  clear hba hpr hR hbx1
  go_wp2_with fail
  refine HPR.out.mono ?_
  rintro e wc ⟨hbc, hpost⟩
  have hB2 := hB1.trans (hbc.mono hB1.size)
  obtain ⟨ka0, ka1, ka2⟩ := HBX1.out _ hbc
  clear HPR hW1 hB1 HBX1 hbc j0 j1 j2
  cases R with
  | no er =>
    have hpost : e = .returned (.tuple #[.slice none 0 0, .int .i64 er]) := hpost
    subst hpost
    have her := HNE.out er (Nat.le_refl _) HR.out
    have herb : (er == 0) = false := by simpa using her
    have HE := Lib.hid hB2
    clear hB2 ka0 ka1 ka2
    go_wp2
    go_ret
    exact ⟨rfl, HE.out⟩
  | ok b =>
    obtain ⟨A, c, rfl, hbys, hlc, _⟩ := hpost
    have hpar := parts_of _ (.mk T [] x0) (Nat.le_refl _) (.agg #[.int .u8 T, .slice none 0 0, .slice a0 nl cap0]) 20000 wc ⟨_, _, _, rfl, HALL.out _ hB2⟩ (by omega) (by omega)
    obtain ⟨PA, hPA⟩ : ∃ z, partsF (.mk T [] x0) 20000 = z := ⟨_, rfl⟩
    rw [hPA] at hpar
    have HPAR := Lib.hid hpar
    have HBY := Lib.hid hbys
    have hblen : b.length ≤ 65539 := writeF_len HR.out
    have hbpos : 0 < b.length := writeF_pos HR.out
    have HRB := Lib.hid (read_all_back HR.out)
    have HCUT := Lib.hid (read_cut HR.out)
    have HKID := Lib.hid (HKR.out b HR.out)
    clear hPA hpar hbys HKR HNE HR
    go_wp2_with fail
    refine HPAR.out.mono ?_
    rintro e wd ⟨rfl, hbd⟩
    have hB3 := hB2.trans (hbd.mono hB2.size)
    have HBY3 := Lib.hid (HBY.out.below hbd)
    clear HPAR HBY hB2 hbd ka0 ka1 ka2
    by_cases hp : 20000 < PA
    · have HE := Lib.hid hB3
      clear hB3
      go_wp2
      go_ret
      exact ⟨rfl, HE.out⟩
    · have hpa := parse_any A b.length c b wd HBY3.out hlc.1 hlc.2 (HT.out.below hB3)
      rw [HRB.out] at hpa
      have HPA := Lib.hid hpa
      clear hpa HRB
      go_wp2_with fail
      refine HPA.out.mono ?_
      rintro e we ⟨hbe, v, rfl, y0, y1, y2, rfl, hyn⟩
      have hB4 := hB3.trans (hbe.mono hB3.size)
      have HBY4 := Lib.hid (HBY3.out.below hbe)
      unfold NdC at hyn
      obtain ⟨rfl, _, ⟨Aj, laj, caj, rfl, _⟩, K, ck, rfl, hk1, hk2, hk3⟩ := hyn
      rw [HNL.out] at hk1
      rw [HNL.out]
      have hck9 : ck ≤ 9223372036854775807 := by unfold maxLen at hk2; omega
      have HK3 := Lib.hid hk3
      clear HPA HBY3 hbe hB3 hk3
      go_wp2_with fail
      obtain ⟨W5, hW5⟩ : ∃ z, we.alloc (.cells #[.int .u8 T, .slice Aj laj caj, .slice K nl ck] 25) = z := ⟨_, rfl⟩
      have hB5 : Below w.heap.size w W5 := by rw [← hW5]; exact hB4.alloc hB4.size _
      have hwe : Below we.heap.size we W5 := by rw [← hW5]; exact below_new _ _
      have hbx5 : ∀ W, Below W5.heap.size W5 W → W.cell? ⟨we.heap.size, 0, none⟩ = some (.int .u8 T) ∧ W.cell? ⟨we.heap.size, 1, none⟩ = some (.slice Aj laj caj) ∧ W.cell? ⟨we.heap.size, 2, none⟩ = some (.slice K nl ck) := fun W hW => box_cells hW (by rw [← hW5]; exact box_new _ _ _ _ _) (by rw [← hW5]; simp)
      have HBX5 := Lib.hid hbx5
      have HB5 := Lib.hid hB5
      have HWE := Lib.hid hwe
      try rw [hW5]
      clear hB4 hbx5 hB5 hwe hW5
      go_loopg [14] (nl + 1) (fun gk s14 wx => ∃ (i : Nat), s14 = .int .i64 i ∧ i ≤ nl ∧ nl - i < gk ∧ Hid (Below W5.heap.size W5 wx))
      case atStart => exact ⟨0, rfl, by omega, by omega, Lib.hid (Below.refl _ _)⟩
      case round =>
        obtain ⟨i, rfl, hi, hgk, hbel⟩ := hrel
        have hbw : Below w.heap.size w wr := HB5.out.trans (hbel.out.mono HB5.out.size)
        have hbwe : Below we.heap.size we wr := below_then HWE.out hbel.out (Nat.le_refl _)
        by_cases hlt : i < nl
        · have hltz : (i : Int) < (nl : Int) := by omega
          obtain ⟨gk', rfl⟩ : ∃ g', gk = g' + 1 := ⟨gk - 1, by omega⟩
          have hix : i < x0.length := by rw [HNL.out]; exact hlt
          obtain ⟨g, off, rfl, hg, hks⟩ := HW0.out (by omega)
          obtain ⟨d0, d1, d2, p0, p1, p2, hd⟩ := (KidsC.below hbw hg trivial x0 off hks).at i hix
          clear hks
          obtain ⟨cb, hcb⟩ := HKID.out _ (List.getElem_mem hix)
          have hpr := print_any x0[i] _ (.agg #[d0, d1, d2]) wr ⟨_, _, _, rfl, hd⟩ (HT.out.below hbw)
          rw [hcb] at hpr
          have HPR := Lib.hid hpr
          have HCB := Lib.hid hcb
          have HBW := Lib.hid hbw
          have HBWE := Lib.hid hbwe
          clear hpr hcb hd hbw hbwe
          go_wp2_with fail
          refine HPR.out.mono ?_
          rintro e wf ⟨hbf, A2, c2, rfl, hbys2, hlc2, _⟩
          have hB6 := below_then hbel.out hbf (Nat.le_refl _)
          have hbwf : Below w.heap.size w wf := HB5.out.trans (hB6.mono HB5.out.size)
          have hpa := parse_any A2 cb.length c2 cb wf hbys2 hlc2.1 hlc2.2 (HT.out.below hbwf)
          rw [read_all_back HCB.out] at hpa
          have HPA := Lib.hid hpa
          have HB6 := Lib.hid hB6
          clear hpa HPR hbys2 hbf hB6 hbwf p0 p1 p2 hbel HBW HBWE
          go_wp2_with fail
          refine HPA.out.mono ?_
          rintro e wg ⟨hbg, v, rfl, z0, z1, z2, rfl, hzn⟩
          obtain ⟨tj, Ak, lak, cak, Kk, lkk, ckk, ez0, ez1, ez2⟩ := hzn.shape
          subst ez0 ez1 ez2
          have hB7 := below_then HB6.out hbg (Nat.le_refl _)
          have hB8 := below_then hB7 (below_new wg (.cells #[.int .u8 tj, .slice Ak lak cak, .slice Kk lkk ckk] 25)) (Nat.le_refl _)
          obtain ⟨x50, x51, x52⟩ := HBX5.out _ hB8
          have hbwe8 := below_then HWE.out hB8 (Nat.le_refl _)
          obtain ⟨g2, off2, rfl, hg2, hBg2, hms⟩ := HK3.out (by omega)
          obtain ⟨f0, f1, f2, q0, q1, q2, hf⟩ := (KidsC.below hbwe8 hg2 hBg2 x0 off2 hms).at i hix
          clear hms
          obtain ⟨W8, hW8⟩ : ∃ z, wg.alloc (.cells #[.int .u8 tj, .slice Ak lak cak, .slice Kk lkk ckk] 25) = z := ⟨_, rfl⟩
          rw [hW8] at hB8 x50 x51 x52 q0 q1 q2 hf hbwe8
          have hzn8 : NdC (fun g => wf.heap.size ≤ g) W8 x0[i] (.int .u8 tj) (.slice Ak lak cak) (.slice Kk lkk ckk) := by rw [← hW8]; exact NdC.below (below_new _ _) _ _ _ _ hzn
          obtain ⟨b0, b1, b2⟩ := box_cells (Below.refl W8.heap.size W8) (by rw [← hW8]; exact box_new _ _ _ _ _) (show wg.heap.size < W8.heap.size by rw [← hW8]; simp)
          have hsm := same_of (C1 := fun g => wf.heap.size ≤ g) (C2 := fun g => wd.heap.size ≤ g) (szN x0[i]) x0[i] x0[i] (Nat.le_refl _) (.agg #[.int .u8 tj, .slice Ak lak cak, .slice Kk lkk ckk]) (.agg #[f0, f1, f2]) W8.drew ⟨_, _, _, rfl, NdC.below (Below.refl _ _).drew _ _ _ _ hzn8⟩ ⟨_, _, _, rfl, NdC.below (Below.refl _ _).drew _ _ _ _ hf⟩
          rw [sameN_refl] at hsm
          have HSM := Lib.hid hsm
          have HB8 := Lib.hid hB8
          have hi0 : (0 : Int) ≤ (i : Int) := by omega
          clear hsm hzn hzn8 hf hB7 hB8 hbg HPA HB6 hbwe8
          go_wp2_with fail
          try rw [hW8]
          clear hW8
          have X1 : ({ heap := W8.heap, tape := W8.tape, drawn := W8.drawn + 1, os := W8.os, output := W8.output } : World).cell? ⟨we.heap.size, 2, none⟩ = some (.slice (some ⟨g2, off2, none⟩) nl ck) := x52
          have Y0 : ({ heap := W8.heap, tape := W8.tape, drawn := W8.drawn + 1, os := W8.os, output := W8.output } : World).cell? ⟨wg.heap.size, 0, none⟩ = some (.int .u8 tj) := b0
          have Y1 : ({ heap := W8.heap, tape := W8.tape, drawn := W8.drawn + 1, os := W8.os, output := W8.output } : World).cell? ⟨wg.heap.size, 1, none⟩ = some (.slice Ak lak cak) := b1
          have Y2 : ({ heap := W8.heap, tape := W8.tape, drawn := W8.drawn + 1, os := W8.os, output := W8.output } : World).cell? ⟨wg.heap.size, 2, none⟩ = some (.slice Kk lkk ckk) := b2
          have Z0 : ({ heap := W8.heap, tape := W8.tape, drawn := W8.drawn + 1, os := W8.os, output := W8.output } : World).cell? ⟨g2, off2 + i * 3, none⟩ = some f0 := q0
          have Z1 : ({ heap := W8.heap, tape := W8.tape, drawn := W8.drawn + 1, os := W8.os, output := W8.output } : World).cell? ⟨g2, off2 + i * 3 + 1, none⟩ = some f1 := q1
          have Z2 : ({ heap := W8.heap, tape := W8.tape, drawn := W8.drawn + 1, os := W8.os, output := W8.output } : World).cell? ⟨g2, off2 + i * 3 + 2, none⟩ = some f2 := q2
          go_still_tail 13, (by kernel_rfl)
          change wpList _ _ _ _ _ W8.drew
          have hB9 := HB8.out.drew
          obtain ⟨w9, hw9⟩ : ∃ z, W8.drew = z := ⟨_, rfl⟩
          rw [hw9] at HSM hB9 ⊢
          clear hw9 X1 Y0 Y1 Y2 Z0 Z1 Z2 x50 x51 x52 q0 q1 q2 b0 b1 b2
          have HB9 := Lib.hid hB9
          clear hB9 HB8
          go_wp2_with fail
          refine HSM.out.mono ?_
          rintro e w10 ⟨rfl, hb10⟩
          have hB10 := below_then HB9.out hb10 (Nat.le_refl _)
          clear HSM hb10 HB9
          go_wp2
          go_roundg gk'
          case measure => omega
          case rel => exact ⟨i + 1, by go_num, by omega, by omega, Lib.hid hB10⟩
        · have hltz : ¬ (i : Int) < (nl : Int) := by omega
          obtain ⟨nb, hnb⟩ : ∃ z, b.length = z := ⟨_, rfl⟩
          obtain ⟨k, hk⟩ : ∃ k : Nat, a2 % (nb : Int) = (k : Int) := ⟨(a2 % (nb : Int)).toNat, by rw [Int.toNat_of_nonneg (Int.emod_nonneg _ (by omega))]⟩
          have hkl : k < nb := by
            have := Int.emod_lt_of_pos a2 (show (0 : Int) < (nb : Int) by omega)
            omega
          have hby4 := HBY4.out.below hbwe
          rw [hnb] at hby4
          obtain ⟨at_, er, hrd, her⟩ := HCUT.out k (by omega)
          have hpa := parse_any A k c (b.take k) wr (hby4.upto (by omega)) (by omega) hlc.2 (HT.out.below hbw)
          rw [hrd] at hpa
          have herb : (er == 0) = false := by simpa using her
          have herc : (er != 0) = true := by simpa using her
          have hnbu : IntKind.u32.wrap (nb : Int) = (nb : Int) := IntWalk.u32_in _ ⟨by omega, by omega⟩
          have hkc : (k : Int) ≤ (c : Int) := by omega
          have HPA := Lib.hid hpa
          have HBW := Lib.hid hbw
          have hnb0 : ¬ (nb : Int) = 0 := by omega
          have hnbp : (0 : Int) < (nb : Int) := by omega
          have hlc1 : nb ≤ c := by omega
          have hc9 : c ≤ 9223372036854775807 := by have := hlc.2; unfold maxLen at this; exact this
          clear hpa hrd hby4 hbwe hbw hbel her HCUT hlc
          rw [hnb]
          clear hnb
          go_wp2_with fail
          refine HPA.out.mono ?_
          rintro e wf ⟨hbf, hpost⟩
          have hpost : e = .returned (.tuple #[.agg #[.int .u8 0, .slice none 0 0, .slice none 0 0], .int .i64 at_, .int .i64 er]) := hpost
          subst hpost
          have hend := HBW.out.trans (hbf.mono HBW.out.size)
          have HE := Lib.hid hend
          clear hend hbf HPA HBW
          go_wp2
          go_ret
          exact ⟨rfl, HE.out⟩

theorem reads (os : Os) {H : Type} (enc : TypeId × Value → H) : ∃ places, DataW.whole enc Tryd.prog ((txc.laidWorld os).forCall (fun _ _ => 0) ⟨#[], #[.slice none 0 0, .int .u8 0, .int .u32 0], []⟩).memory Tryd.f6.params.toList Rows.nodesInnerSpec.vars false (#[.slice none 0 0, .int .u8 0, .int .u32 0] : Array Value).toList 8 = some ([.nil, .lit (.int .u8 0), .lit (.int .u32 0)], [], places) :=
  ⟨[], by kernel_rfl⟩
set_option maxRecDepth 100000 in
theorem lifted (os : Os) (started : os.Started) (H : Type) (enc : TypeId × Value → H) (F : Stop.Interp) :
    ReturnsInHanded {} Tryd.checked os 6 .any ((OpenSpec.ofChange Rows.nodesInnerSpec).preRow enc Tryd.prog Tryd.f6 Rows.nodesInnerRow.domain false Rows.nodesInnerRow.laid) (((OpenSpec.ofChange Rows.nodesInnerSpec).at F).post enc Tryd.prog Tryd.f6 false true false false) := by
  obtain ⟨places, hx⟩ := reads os enc
  refine returnsInHanded_of_row (C := Tryd.checked) (s := (OpenSpec.ofChange Rows.nodesInnerSpec)) own started (by kernel_rfl) Tryd.func6
    (witness_row_at (enc := enc) (C := Tryd.checked) false (txc.laidWorld os) #[.slice none 0 0, .int .u8 0, .int .u32 0] rfl (by kernel_rfl) (by kernel_rfl) (by kernel_rfl)
      (OpenSpec.preRow_of_cond 8 hx (by kernel_rfl) (fun k hk => by cases hk) (by kernel_rfl) (txc.laid_met os _))) ?_
  intro W base args ds gs before hval0 hW hcnd hcond hsz0 hL _ _
  have hval : ∀ (j : Nat) t v, Tryd.f6.params[j]? = some t → args[j]? = some v → Value.okWide Tryd.prog W .any base t v := hval0
  have hW' := hW
  obtain ⟨p, q, hA0, hV, rfl, hfz, hnd⟩ := hW
  have hA : DataW.TrodAll enc Tryd.prog W 0 (fun _ => true) true Tryd.f6.params.toList args.toList ds p := hA0
  have hsz : (DataW.weightsEach Tryd.prog (Tryd.f6.params.toList ++ (OpenSpec.ofChange Rows.nodesInnerSpec).bare.plain.varTypes Tryd.prog) (ds ++ gs)).all (· ≤ reachBytes) = true := hsz0
  rw [Tryd.params6] at hA hval hsz
  obtain ⟨v0, vs0, d0, ds0, p0, q0, hargs, rfl, rfl, h0, r_0⟩ := trodAll_cons hA
  obtain ⟨v1, vs1, d1, ds1, p1, q1, rfl, rfl, rfl, h1, r_1⟩ := trodAll_cons r_0
  obtain ⟨v2, vs2, d2, ds2, p2, q2, rfl, rfl, rfl, h2, r_2⟩ := trodAll_cons r_1
  obtain ⟨rfl, rfl, rfl⟩ := trodAll_nil r_2
  obtain rfl : args = #[v0, v1, v2] := by cases args; simp_all
  obtain ⟨rfl, rfl⟩ := trodVars_none hV
  obtain ⟨a0, len0, cap0, rfl⟩ := okWide_slice Tryd.underlying23 (hval 0 23 v0 rfl rfl)
  have k0 := h0
  have lt0 : ∀ x ∈ p0, x.block < W.heap.size := by obtain ⟨m, hm⟩ := k0; exact DataW.trod_lt m _ _ _ hm
  obtain ⟨x0, e0, w0, l0, m0, s0⟩ := ndc.open_nds ({ U := _, f0 := _, f1 := _, f2 := _, hT := Tryd.underlying25, hone := by kernel_rfl, hC := by kernel_rfl, e0 := Tryd.underlying5, e1 := Tryd.underlying22, eU := Tryd.underlying5, cU := by kernel_rfl, e2 := Tryd.underlying23 }) Tryd.underlying23 h0
  have r0 := tlvc.spots_reach hsz s0 (j := 0) rfl rfl Tryd.underlying23 (of_decide_eq_true (by kernel_rfl))
  obtain ⟨a1, rfl, rfl, rfl, w1⟩ := open_int Tryd.underlying5 (hval 1 5 v1 rfl rfl) h1
  obtain ⟨a2, rfl, rfl, rfl, w2⟩ := open_int Tryd.underlying38 (hval 2 38 v2 rfl rfl) h2
  clear hA0 hval0
  have hT : txc.Tabs W := txc.tabs_of hL
  refine (walk a0 len0 cap0 x0 a1 a2 W e0 w0 l0 m0 r0 w1 w2 hT).mono fun e W' ⟨he, bel⟩ => ?_
  subst he
  exact ⟨_, rfl, _, _, _, [], _, [], hW', trodAll_mk1 (shut_bool Tryd.underlying4 _), (trodAll_cons_mk (Below.trod laidOut (by kernel_rfl) (of_decide_eq_true (by kernel_rfl)) k0 bel lt0) (trodAll_cons_mk (shut_int Tryd.underlying5 w1) (trodAll_cons_mk (shut_int Tryd.underlying38 w2) trodAll_mk0))), rfl, bel.frame _, fun h => by cases h⟩

theorem over : Rows.nodesInnerRow.holds Tryd.pinned (OpenSpec.ofChange Rows.nodesInnerSpec) :=
  OpenClaim.holds_of_cond 6 Tryd.f6 rfl rfl rfl rfl rfl rfl rfl ⟨rfl, rfl, rfl, rfl, rfl⟩ rfl rfl rfl rfl rfl (by kernel_rfl) Tryd.func6 (by kernel_rfl)
    (of_decide_eq_true (by kernel_rfl)) (by unfold Func.isWrapper; first | (rw [if_pos (by decide +kernel)]; kernel_rfl) | (rw [if_neg (by decide +kernel)]; exact ⟨rfl, rfl⟩))
    (fun os started H enc _ F => by rw [OpenClaim.pre_eq_preRow]; exact lifted os started H enc F)

theorem plain (f : FuncId) (fn : Func) (hf : Tryd.pinned.checked.prog.funcNamed "warder/warderlaw04.NodesInner" = some f) (hfn : Tryd.pinned.checked.prog.funcs[f]? = some fn) :
    true = Tryd.pinned.checked.prog.looks [] ∧ ∀ (j : Nat) t, fn.params[j]? = some t → Tryd.pinned.checked.prog.wantsStandIn t = false := by
  obtain rfl : f = 6 := Option.some.inj ((show Tryd.prog.funcNamed "warder/warderlaw04.NodesInner" = some 6 by kernel_rfl).symm.trans hf) |>.symm
  obtain rfl : fn = Tryd.f6 := (Option.some.inj (Tryd.func6.symm.trans hfn)).symm
  refine ⟨by kernel_rfl, fun j t ht => ?_⟩
  rw [Tryd.params6] at ht
  match j, ht with
    | 0, ht => obtain rfl : t = 23 := (Option.some.inj ht).symm; exact (show Tryd.prog.wantsStandIn 23 = false by kernel_rfl)
    | 1, ht => obtain rfl : t = 5 := (Option.some.inj ht).symm; exact (show Tryd.prog.wantsStandIn 5 = false by kernel_rfl)
    | 2, ht => obtain rfl : t = 38 := (Option.some.inj ht).symm; exact (show Tryd.prog.wantsStandIn 38 = false by kernel_rfl)
    | j + 3, ht => simp at ht

theorem proved : Rows.NodesInnerCardSaid :=
  Claim7.holds_tied_plain_at .later [] _ _ _ _ over (fun _ h => by cases h) (by kernel_rfl) (fun _ h => by cases h) nodesInner_row_tie rfl ⟨rfl, rfl⟩ (by kernel_rfl) rfl plain (by kernel_rfl)
#print axioms proved
end Go.Proofs.YtaafgohaikhekaaDoor.nodesInner
