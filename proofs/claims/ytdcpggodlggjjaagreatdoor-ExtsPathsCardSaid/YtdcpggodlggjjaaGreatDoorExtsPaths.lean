/- The law ExtsPaths of warderlaw10 answers true for every byte, truth and usage, and leaves its arguments as they were; no condition but that the library's two tables are as its text lays them. -/
import Derived.Test.YtdcpggodlggjjaaGreatDoorCards
import Derived.Test.YtdcpggodlggjjaaGreatDoorTie
import Derived.WalkKit
import Derived.ProofKit
import Derived.OpenShut
import Derived.ChangeOld
import Derived.Below
import Derived.SizedLaws
import Derived.Test.YtdcpggodlggjjaaGreatDoorKb
import Derived.Test.YtdcpggodlggjjaaGreatDoorXc
import Derived.Test.YtdcpggodlggjjaaGreatDoorAu
import Derived.Laws.EntriesVeiled
namespace Go.Proofs.YtdcpggodlggjjaaGreatDoor.extsPaths
open Go.ChangeShapes Go.WideShapes Go.ChangeAt Go.RowKit
set_option linter.unusedVariables false

theorem own : ownKnob Tryz.prog.godebug = none := by kernel_rfl
theorem laidOut : laidOutB Tryz.prog = true := by kernel_rfl

open Go.Proofs.YtdcpggodlggjjaaGreatDoor.tlvc Go.Proofs.YtdcpggodlggjjaaGreatDoor.tlvd Go.Proofs.YtdcpggodlggjjaaGreatDoor.ndc Go.Proofs.YtdcpggodlggjjaaGreatDoor.txc Go.Proofs.YtdcpggodlggjjaaGreatDoor.nmc

set_option maxRecDepth 100000 in
set_option maxHeartbeats 16000000 in
theorem walk (a0 : Int) (a1 : Bool) (a2 : Int) (w : World) (w0 : (Lit.int .u8 a0).wf = true) (w2 : (Lit.int .u16 a2).wf = true) (hT : txc.Tabs w) :
    Calls Tryz.prog 7 #[.int .u8 a0, .bool a1, .int .u16 a2] w fun e w' => e = .returned (.bool true) ∧ Below w.heap.size w w' := by
  have hi := bounds_u8 w0
  have hu := bounds_u16 w2
  have HU := Lib.hid (show 0 ≤ a2 ∧ a2 ≤ 65535 from by omega)
  clear hu
  go_enter Tryz.func7, Tryz.ntmps7
  go_wp2_with fail
  refine (head10_any _ hT).mono ?_
  rintro e wa ⟨rfl, hba⟩
  cases a1
  · have hV := below_then hba (below_new wa (.cells #[.bool true, .bool false, .int .i64 0, .int .u16 0, .slice none 0 0, .slice none 0 0, .slice none 0 0, .slice none 0 0, .slice none 0 0] 28)) (Nat.le_refl _)
    have hp1 := putE_any (fun _ => True) (exZ true false 0 0) _ _ _ _ _ _ _ _ _ _ (exZ_cells _ _ _ _ _ _ (by decide) (by decide)) (hT.below hV)
    rw [exZ_put _ _ _ _ (by decide), if_pos (by decide)] at hp1
    have HP1 := Lib.hid hp1
    have HR := Lib.hid (show rightX (exZ true false 0 0) = true from by rw [exZ_right]; decide)
    have HV := Lib.hid (And.intro hV (show (wa.alloc (.cells #[.bool true, .bool false, .int .i64 0, .int .u16 0, .slice none 0 0, .slice none 0 0, .slice none 0 0, .slice none 0 0, .slice none 0 0] 28)).cell? ⟨wa.heap.size, 2, none⟩ = some (.int .i64 0) from (Lib.cell_of_heap (heap_new_ wa (.cells #[.bool true, .bool false, .int .i64 0, .int .u16 0, .slice none 0 0, .slice none 0 0, .slice none 0 0, .slice none 0 0, .slice none 0 0] 28)) 2).trans rfl))
    clear hV hp1 hba
    go_wp2_with fail
    refine HP1.out.mono ?_
    rintro e w1 ⟨hb1, t1, A1, l1, i1, K1, m1, n1, rfl, hn1⟩
    obtain rfl : m1 = 1 := by rw [nd_len hn1, exZ_kids]; rfl
    have hnb := below_new w1 (.cells #[.int .u8 t1, .slice A1 l1 i1, .slice K1 1 n1] 33)
    have hqn := heap_new_ w1 (.cells #[.int .u8 t1, .slice A1 l1 i1, .slice K1 1 n1] 33)
    have hb11 := below_then hb1 hnb (Nat.le_refl _)
    have hbw := below_then HV.out.1 hb11 (Nat.le_refl _)
    have hg := getE_any _ _ _ _ _ _ (NdC.below hnb _ _ _ _ hn1) (hT.below hbw)
    rw [getX_node (by show (0 : Int) ≤ 0 ∧ (0 : Int) ≤ 65535; decide) (HR.out)] at hg
    have HG := Lib.hid hg
    have HB1 := Lib.hid (And.intro hbw (And.intro hqn hb11))
    have d2 := cell_on hb11 HV.out.2
    clear hnb hqn hbw hg hn1 hb1 hb11 HP1
    go_wp2_with fail
    refine HG.out.mono ?_
    rintro e w2 ⟨hb2, c0, c1, c2, c3, c4, c5, c6, c7, c8, rfl, hx2⟩
    obtain ⟨q0, q1, q2, q3, B4, q4, j4, B5, q5, j5, B6, q6, j6, B7, q7, j7, B8, q8, j8, rfl, rfl, rfl, rfl, rfl, rfl, rfl, rfl, rfl⟩ := exC_shape hx2
    obtain rfl : q0 = true := by have := hx2.has; simpa [exZ] using this
    obtain rfl : q1 = false := by have := hx2.ca; simpa [exZ] using this
    have hq2 : 0 = q2 := by have := hx2.path; simpa [exZ] using this.symm
    subst hq2
    have hnb := below_new w2 (.cells #[.bool true, .bool false, .int .i64 0, .int .u16 q3, .slice B4 q4 j4, .slice B5 q5 j5, .slice B6 q6 j6, .slice B7 q7 j7, .slice B8 q8 j8] 28)
    have hb22 := below_then hb2 hnb (Nat.le_refl _)
    have hbw := below_then HB1.out.1 hb22 (Nat.le_refl _)
    obtain ⟨x0, x1, x2⟩ := box_nd hb22 HB1.out.2.1
    have d3 := cell_on hb22 d2
    have hp2 := putE_any (fun _ => True) (exZ false false 0 a2) _ _ _ _ _ _ _ _ _ (w2.alloc (.cells #[.bool true, .bool false, .int .i64 0, .int .u16 q3, .slice B4 q4 j4, .slice B5 q5 j5, .slice B6 q6 j6, .slice B7 q7 j7, .slice B8 q8 j8] 28)) (exZ_cells _ _ _ _ _ _ (by decide) HU.out) (hT.below hbw)
    rw [exZ_put _ _ _ _ HU.out, if_pos (by decide)] at hp2
    have HP2 := Lib.hid hp2
    have HB2 := Lib.hid hbw
    clear hnb hb22 hbw hp2 hb2 hx2 HG d2 HB1
    go_wp2_with fail
    refine HP2.out.mono ?_
    rintro e w3 ⟨hb3, t3, A3, l3, i3, K3, m3, n3, rfl, hn3⟩
    have hm3 : m3 = if a2 = 0 then 0 else 1 := by rw [nd_len hn3, exZ_kids]; simp
    have hnb := below_new w3 (.cells #[.int .u8 t3, .slice A3 l3 i3, .slice K3 m3 n3] 33)
    have hqn := heap_new_ w3 (.cells #[.int .u8 t3, .slice A3 l3 i3, .slice K3 m3 n3] 33)
    have hb33 := below_then hb3 hnb (Nat.le_refl _)
    have hbw := below_then HB2.out hb33 (Nat.le_refl _)
    have hg := getE_any _ _ _ _ _ _ (NdC.below hnb _ _ _ _ hn3) (hT.below hbw)
    rw [getX_node HU.out (by rw [exZ_right]; decide)] at hg
    have HG := Lib.hid hg
    have HB3 := Lib.hid (And.intro hbw hqn)
    have HM := Lib.hid hm3
    clear hnb hqn hbw hg hn3 hb3 hb33 HP2 hm3 x0 x1 x2 d3
    go_wp2_with fail
    refine HG.out.mono ?_
    rintro e w4 ⟨hb4, c0, c1, c2, c3, c4, c5, c6, c7, c8, rfl, hx4⟩
    obtain ⟨q0z, q1z, q2z, q3z, B4z, q4z, j4z, B5z, q5z, j5z, B6z, q6z, j6z, B7z, q7z, j7z, B8z, q8z, j8z, rfl, rfl, rfl, rfl, rfl, rfl, rfl, rfl, rfl⟩ := exC_shape hx4
    have hq3 : q3z = a2 := by have := hx4.usage; simpa [exZ] using this
    subst hq3
    have hnb := below_new w4 (.cells #[.bool q0z, .bool q1z, .int .i64 q2z, .int .u16 q3z, .slice B4z q4z j4z, .slice B5z q5z j5z, .slice B6z q6z j6z, .slice B7z q7z j7z, .slice B8z q8z j8z] 28)
    have hb44 := below_then hb4 hnb (Nat.le_refl _)
    obtain ⟨x0, x1, x2⟩ := box_nd hb44 HB3.out.2
    have HE := Lib.hid (below_then HB3.out.1 hb44 (Nat.le_refl _))
    clear hnb hb44 hb4 hx4 HG HB3 HB2
    by_cases hu0 : q3z = 0
    · have hm0 : m3 = 0 := by rw [HM.out, if_pos hu0]
      subst hu0 hm0
      go_wp2_with fail
      go_ret
      exact ⟨rfl, HE.out⟩
    · have hm1 : m3 = 1 := by rw [HM.out, if_neg hu0]
      subst hm1
      have hub : (q3z == 0) = false := by rw [beq_eq_false_iff_ne]; exact hu0
      go_wp2_with fail
      go_ret
      exact ⟨rfl, HE.out⟩
  · obtain ⟨p, hp⟩ : ∃ p, a0 - 1 = p := ⟨_, rfl⟩
    have hw1 : IntKind.i64.wrap (a0 - 1) = p := by rw [IntKind.wrap_i64] <;> omega
    have hw2 : wrap64 (a0 - 1) = p := by unfold wrap64; omega
    have hw3 : IntKind.i64.wrap a0 = a0 := by rw [IntKind.wrap_i64] <;> omega
    have hpb : -1 ≤ p ∧ p ≤ 254 := by omega
    have HPB := Lib.hid hpb
    have hV := below_then hba (below_new wa (.cells #[.bool true, .bool true, .int .i64 p, .int .u16 0, .slice none 0 0, .slice none 0 0, .slice none 0 0, .slice none 0 0, .slice none 0 0] 28)) (Nat.le_refl _)
    have hp1 := putE_any (fun _ => True) (exZ true true p 0) _ _ _ _ _ _ _ _ _ _ (exZ_cells _ _ _ _ _ _ (by omega) (by decide)) (hT.below hV)
    have HV := Lib.hid (And.intro hV (show (wa.alloc (.cells #[.bool true, .bool true, .int .i64 p, .int .u16 0, .slice none 0 0, .slice none 0 0, .slice none 0 0, .slice none 0 0, .slice none 0 0] 28)).cell? ⟨wa.heap.size, 2, none⟩ = some (.int .i64 p) from (Lib.cell_of_heap (heap_new_ wa (.cells #[.bool true, .bool true, .int .i64 p, .int .u16 0, .slice none 0 0, .slice none 0 0, .slice none 0 0, .slice none 0 0, .slice none 0 0] 28)) 2).trans rfl))
    by_cases hgt : 100 < p
    · rw [exZ_put _ _ _ _ (by decide), if_neg (by simp; omega)] at hp1
      have HP1 := Lib.hid hp1
      clear hV hp1 hba hpb hp
      go_wp2_with fail
      refine HP1.out.mono ?_
      rintro e w1 ⟨hb1, rfl⟩
      have d2 := cell_on (below_then hb1 (below_new w1 (.cells #[.int .u8 0, .slice none 0 0, .slice none 0 0] 33)) (Nat.le_refl _)) HV.out.2
      have HE := Lib.hid (below_then HV.out.1 (below_then hb1 (below_new w1 (.cells #[.int .u8 0, .slice none 0 0, .slice none 0 0] 33)) (Nat.le_refl _)) (Nat.le_refl _))
      clear hb1 HP1 HV
      go_wp2_with fail
      go_ret
      exact ⟨rfl, HE.out⟩
    · have hle : p ≤ 100 := by omega
      rw [exZ_put _ _ _ _ (by decide), if_pos (by simp; omega)] at hp1
      have HP1 := Lib.hid hp1
      have HR := Lib.hid (show rightX (exZ true true p 0) = true from by rw [exZ_right]; simp; omega)
      clear hV hp1 hba hpb hp hle
      go_wp2_with fail
      refine HP1.out.mono ?_
      rintro e w1 ⟨hb1, t1, A1, l1, i1, K1, m1, n1, rfl, hn1⟩
      obtain rfl : m1 = 1 := by rw [nd_len hn1, exZ_kids]; rfl
      have hnb := below_new w1 (.cells #[.int .u8 t1, .slice A1 l1 i1, .slice K1 1 n1] 33)
      have hqn := heap_new_ w1 (.cells #[.int .u8 t1, .slice A1 l1 i1, .slice K1 1 n1] 33)
      have hb11 := below_then hb1 hnb (Nat.le_refl _)
      have hbw := below_then HV.out.1 hb11 (Nat.le_refl _)
      have hg := getE_any _ _ _ _ _ _ (NdC.below hnb _ _ _ _ hn1) (hT.below hbw)
      rw [getX_node (by show (0 : Int) ≤ 0 ∧ (0 : Int) ≤ 65535; decide) (HR.out)] at hg
      have HG := Lib.hid hg
      have HB1 := Lib.hid (And.intro hbw (And.intro hqn hb11))
      have d2 := cell_on hb11 HV.out.2
      clear hnb hqn hbw hg hn1 hb1 hb11 HP1
      go_wp2_with fail
      refine HG.out.mono ?_
      rintro e w2 ⟨hb2, c0, c1, c2, c3, c4, c5, c6, c7, c8, rfl, hx2⟩
      obtain ⟨q0, q1, q2, q3, B4, q4, j4, B5, q5, j5, B6, q6, j6, B7, q7, j7, B8, q8, j8, rfl, rfl, rfl, rfl, rfl, rfl, rfl, rfl, rfl⟩ := exC_shape hx2
      obtain rfl : q0 = true := by have := hx2.has; simpa [exZ] using this
      obtain rfl : q1 = true := by have := hx2.ca; simpa [exZ] using this
      have hq2 : p = q2 := by have := hx2.path; simpa [exZ] using this.symm
      subst hq2
      have hnb := below_new w2 (.cells #[.bool true, .bool true, .int .i64 p, .int .u16 q3, .slice B4 q4 j4, .slice B5 q5 j5, .slice B6 q6 j6, .slice B7 q7 j7, .slice B8 q8 j8] 28)
      have hb22 := below_then hb2 hnb (Nat.le_refl _)
      have hbw := below_then HB1.out.1 hb22 (Nat.le_refl _)
      obtain ⟨x0, x1, x2⟩ := box_nd hb22 HB1.out.2.1
      have d3 := cell_on hb22 d2
      have hp2 := putE_any (fun _ => True) (exZ false false 0 a2) _ _ _ _ _ _ _ _ _ (w2.alloc (.cells #[.bool true, .bool true, .int .i64 p, .int .u16 q3, .slice B4 q4 j4, .slice B5 q5 j5, .slice B6 q6 j6, .slice B7 q7 j7, .slice B8 q8 j8] 28)) (exZ_cells _ _ _ _ _ _ (by decide) HU.out) (hT.below hbw)
      rw [exZ_put _ _ _ _ HU.out, if_pos (by decide)] at hp2
      have HP2 := Lib.hid hp2
      have HB2 := Lib.hid hbw
      clear hnb hb22 hbw hp2 hb2 hx2 HG d2 HB1
      go_wp2_with fail
      refine HP2.out.mono ?_
      rintro e w3 ⟨hb3, t3, A3, l3, i3, K3, m3, n3, rfl, hn3⟩
      have hm3 : m3 = if a2 = 0 then 0 else 1 := by rw [nd_len hn3, exZ_kids]; simp
      have hnb := below_new w3 (.cells #[.int .u8 t3, .slice A3 l3 i3, .slice K3 m3 n3] 33)
      have hqn := heap_new_ w3 (.cells #[.int .u8 t3, .slice A3 l3 i3, .slice K3 m3 n3] 33)
      have hb33 := below_then hb3 hnb (Nat.le_refl _)
      have hbw := below_then HB2.out hb33 (Nat.le_refl _)
      have hg := getE_any _ _ _ _ _ _ (NdC.below hnb _ _ _ _ hn3) (hT.below hbw)
      rw [getX_node HU.out (by rw [exZ_right]; decide)] at hg
      have HG := Lib.hid hg
      have HB3 := Lib.hid (And.intro hbw hqn)
      have HM := Lib.hid hm3
      clear hnb hqn hbw hg hn3 hb3 hb33 HP2 hm3 x0 x1 x2 d3
      go_wp2_with fail
      refine HG.out.mono ?_
      rintro e w4 ⟨hb4, c0, c1, c2, c3, c4, c5, c6, c7, c8, rfl, hx4⟩
      obtain ⟨q0z, q1z, q2z, q3z, B4z, q4z, j4z, B5z, q5z, j5z, B6z, q6z, j6z, B7z, q7z, j7z, B8z, q8z, j8z, rfl, rfl, rfl, rfl, rfl, rfl, rfl, rfl, rfl⟩ := exC_shape hx4
      have hq3 : q3z = a2 := by have := hx4.usage; simpa [exZ] using this
      subst hq3
      have hnb := below_new w4 (.cells #[.bool q0z, .bool q1z, .int .i64 q2z, .int .u16 q3z, .slice B4z q4z j4z, .slice B5z q5z j5z, .slice B6z q6z j6z, .slice B7z q7z j7z, .slice B8z q8z j8z] 28)
      have hb44 := below_then hb4 hnb (Nat.le_refl _)
      obtain ⟨x0, x1, x2⟩ := box_nd hb44 HB3.out.2
      have HE := Lib.hid (below_then HB3.out.1 hb44 (Nat.le_refl _))
      clear hnb hb44 hb4 hx4 HG HB3 HB2
      by_cases hu0 : q3z = 0
      · have hm0 : m3 = 0 := by rw [HM.out, if_pos hu0]
        subst hu0 hm0
        go_wp2_with fail
        go_ret
        exact ⟨rfl, HE.out⟩
      · have hm1 : m3 = 1 := by rw [HM.out, if_neg hu0]
        subst hm1
        have hub : (q3z == 0) = false := by rw [beq_eq_false_iff_ne]; exact hu0
        go_wp2_with fail
        go_ret
        exact ⟨rfl, HE.out⟩

theorem reads (os : Os) {H : Type} (enc : TypeId × Value → H) : ∃ places, DataW.whole enc Tryz.prog ((txc.laidWorld os).forCall (fun _ _ => 0) ⟨#[], #[.int .u8 0, .bool false, .int .u16 0], []⟩).memory Tryz.f7.params.toList Rows.extsPathsSpec.vars false (#[.int .u8 0, .bool false, .int .u16 0] : Array Value).toList 8 = some ([.lit (.int .u8 0), .lit (.bool false), .lit (.int .u16 0)], [], places) :=
  ⟨[], by kernel_rfl⟩
set_option maxRecDepth 100000 in
theorem lifted (os : Os) (started : os.Started) (H : Type) (enc : TypeId × Value → H) (F : Stop.Interp) :
    ReturnsInHanded {} Tryz.checked os 7 .any ((OpenSpec.ofChange Rows.extsPathsSpec).preRow enc Tryz.prog Tryz.f7 Rows.extsPathsRow.domain false Rows.extsPathsRow.laid) (((OpenSpec.ofChange Rows.extsPathsSpec).at F).post enc Tryz.prog Tryz.f7 false true false false) := by
  obtain ⟨places, hx⟩ := reads os enc
  refine returnsInHanded_of_row (C := Tryz.checked) (s := (OpenSpec.ofChange Rows.extsPathsSpec)) own started (by kernel_rfl) Tryz.func7
    (witness_row_at (enc := enc) (C := Tryz.checked) false (txc.laidWorld os) #[.int .u8 0, .bool false, .int .u16 0] rfl (by kernel_rfl) (by kernel_rfl) (by kernel_rfl)
      (OpenSpec.preRow_of_cond 8 hx (by kernel_rfl) (fun k hk => by cases hk) (by kernel_rfl) (txc.laid_met os _))) ?_
  intro W base args ds gs before hval0 hW hcnd hcond hsz0 hL _ _
  have hval : ∀ (j : Nat) t v, Tryz.f7.params[j]? = some t → args[j]? = some v → Value.okWide Tryz.prog W .any base t v := hval0
  have hW' := hW
  obtain ⟨p, q, hA0, hV, rfl, hfz, hnd⟩ := hW
  have hA : DataW.TrodAll enc Tryz.prog W 0 (fun _ => true) true Tryz.f7.params.toList args.toList ds p := hA0
  have hsz : (DataW.weightsEach Tryz.prog (Tryz.f7.params.toList ++ (OpenSpec.ofChange Rows.extsPathsSpec).bare.plain.varTypes Tryz.prog) (ds ++ gs)).all (· ≤ reachBytes) = true := hsz0
  rw [Tryz.params7] at hA hval hsz
  obtain ⟨v0, vs0, d0, ds0, p0, q0, hargs, rfl, rfl, h0, r_0⟩ := trodAll_cons hA
  obtain ⟨v1, vs1, d1, ds1, p1, q1, rfl, rfl, rfl, h1, r_1⟩ := trodAll_cons r_0
  obtain ⟨v2, vs2, d2, ds2, p2, q2, rfl, rfl, rfl, h2, r_2⟩ := trodAll_cons r_1
  obtain ⟨rfl, rfl, rfl⟩ := trodAll_nil r_2
  obtain rfl : args = #[v0, v1, v2] := by cases args; simp_all
  obtain ⟨rfl, rfl⟩ := trodVars_none hV
  obtain ⟨a0, rfl, rfl, rfl, w0⟩ := open_int Tryz.underlying5 (hval 0 5 v0 rfl rfl) h0
  obtain ⟨a1, rfl, rfl, rfl⟩ := open_bool Tryz.underlying4 (hval 1 4 v1 rfl rfl) h1
  obtain ⟨a2, rfl, rfl, rfl, w2⟩ := open_int Tryz.underlying22 (hval 2 22 v2 rfl rfl) h2
  clear hA0 hval0
  have hT : txc.Tabs W := txc.tabs_of hL
  refine (walk a0 a1 a2 W w0 w2 hT).mono fun e W' ⟨he, bel⟩ => ?_
  subst he
  exact ⟨_, rfl, _, _, _, [], _, [], hW', trodAll_mk1 (shut_bool Tryz.underlying4 _), (trodAll_cons_mk (shut_int Tryz.underlying5 w0) (trodAll_cons_mk (shut_bool Tryz.underlying4 a1) (trodAll_cons_mk (shut_int Tryz.underlying22 w2) trodAll_mk0))), rfl, bel.frame _, fun h => by cases h⟩

theorem over : Rows.extsPathsRow.holds Tryz.pinned (OpenSpec.ofChange Rows.extsPathsSpec) :=
  OpenClaim.holds_of_cond 7 Tryz.f7 rfl rfl rfl rfl rfl rfl rfl ⟨rfl, rfl, rfl, rfl, rfl⟩ rfl rfl rfl rfl rfl (by kernel_rfl) Tryz.func7 (by kernel_rfl)
    (of_decide_eq_true (by kernel_rfl)) (by unfold Func.isWrapper; first | (rw [if_pos (by decide +kernel)]; kernel_rfl) | (rw [if_neg (by decide +kernel)]; exact ⟨rfl, rfl⟩))
    (fun os started H enc _ F => by rw [OpenClaim.pre_eq_preRow]; exact lifted os started H enc F)

theorem plain (f : FuncId) (fn : Func) (hf : Tryz.pinned.checked.prog.funcNamed "warder/warderlaw10.ExtsPaths" = some f) (hfn : Tryz.pinned.checked.prog.funcs[f]? = some fn) :
    true = Tryz.pinned.checked.prog.looks [] ∧ ∀ (j : Nat) t, fn.params[j]? = some t → Tryz.pinned.checked.prog.wantsStandIn t = false := by
  obtain rfl : f = 7 := Option.some.inj ((show Tryz.prog.funcNamed "warder/warderlaw10.ExtsPaths" = some 7 by kernel_rfl).symm.trans hf) |>.symm
  obtain rfl : fn = Tryz.f7 := (Option.some.inj (Tryz.func7.symm.trans hfn)).symm
  refine ⟨by kernel_rfl, fun j t ht => ?_⟩
  rw [Tryz.params7] at ht
  match j, ht with
    | 0, ht => obtain rfl : t = 5 := (Option.some.inj ht).symm; exact (show Tryz.prog.wantsStandIn 5 = false by kernel_rfl)
    | 1, ht => obtain rfl : t = 4 := (Option.some.inj ht).symm; exact (show Tryz.prog.wantsStandIn 4 = false by kernel_rfl)
    | 2, ht => obtain rfl : t = 22 := (Option.some.inj ht).symm; exact (show Tryz.prog.wantsStandIn 22 = false by kernel_rfl)
    | j + 3, ht => simp at ht

theorem proved : Rows.ExtsPathsCardSaid :=
  Claim7.holds_tied_plain_at .later [] _ _ _ _ over (fun _ h => by cases h) (by kernel_rfl) (fun _ h => by cases h) extsPaths_row_tie rfl ⟨rfl, rfl⟩ (by kernel_rfl) rfl plain (by kernel_rfl)
#print axioms proved
end Go.Proofs.YtdcpggodlggjjaaGreatDoor.extsPaths
