/- The law NodesParses of warderlaw04 answers true for all bytes, and leaves its argument as it was; no condition but that the library's two tables are as its text lays them. -/
import Derived.Test.YtaafgohaikhekaaDoorCards
import Derived.Test.YtaafgohaikhekaaDoorTie
import Derived.WalkKit
import Derived.ProofKit
import Derived.OpenShut
import Derived.ChangeOld
import Derived.Below
import Derived.SizedLaws
import Derived.Test.YtaafgohaikhekaaDoorKb
import Derived.Test.YtaafgohaikhekaaDoorXc
import Derived.Test.YtaafgohaikhekaaDoorNdPk
namespace Go.Proofs.YtaafgohaikhekaaDoor.nodesParses
open Go.ChangeShapes Go.WideShapes Go.ChangeAt Go.RowKit
set_option linter.unusedVariables false

theorem own : ownKnob Tryd.prog.godebug = none := by kernel_rfl
theorem laidOut : laidOutB Tryd.prog = true := by kernel_rfl

open Go.Proofs.YtaafgohaikhekaaDoor.tlvc Go.Proofs.YtaafgohaikhekaaDoor.tlvd Go.Proofs.YtaafgohaikhekaaDoor.txc Go.Proofs.YtaafgohaikhekaaDoor.ndc

set_option maxRecDepth 100000 in
set_option maxHeartbeats 16000000 in
theorem walk (a0 : Option Addr) (len0 cap0 : Nat) (x0 : List Int) (w : World) (w0 : tlvc.Bys w a0 len0 x0) (l0 : len0 ≤ cap0) (r0 : cap0 ≤ 140737488351232) (hT : txc.Tabs w) :
    Calls Tryd.prog 4 #[.slice a0 len0 cap0] w fun e w' => e = .returned (.bool true) ∧ Below w.heap.size w w' := by
  obtain ⟨i0, hi, hz0, hz1, hz2⟩ := info_parts intc.Tryd.info5
  have hcm : cap0 ≤ maxLen := by unfold maxLen; omega
  obtain ⟨R, hR⟩ : ∃ r, readAllF x0 = r := ⟨_, rfl⟩
  have hpp := fun (A : Option Addr) (c : Nat) (W : World) (h1 : Bys W A len0 x0) (h2 : len0 ≤ c) (h3 : c ≤ maxLen) (h4 : Tabs W) => parse_any A len0 c x0 W h1 h2 h3 h4
  have hrp := fun (A : Option Addr) (c : Nat) (W : World) (h1 : Bys W A len0 x0) (h2 : len0 ≤ c) (h3 : c ≤ maxLen) (h4 : Tabs W) => refParse_any A len0 c x0 W h1 h2 h3 h4
  rw [hR] at hpp hrp
  have HPP := Lib.hid hpp
  have HRP := Lib.hid hrp
  obtain ⟨AT, hAT⟩ : ∃ x, ansA R = x := ⟨_, rfl⟩
  obtain ⟨ER, hER⟩ : ∃ x, ansE R = x := ⟨_, rfl⟩
  have HAT := Lib.hid hAT
  have HER := Lib.hid hER
  have t1 : (AT == AT) = true := by simp
  have t2 : (ER == ER) = true := by simp
  clear hpp hrp hR hAT hER
  have HTB := Lib.hid hT
  have HW0 := Lib.hid w0
  go_enter Tryd.func4, Tryd.ntmps4
  go_wp2_with fail
  refine (head_any _ hT).mono ?_
  rintro e wa ⟨rfl, hba⟩
  have hx := (w0.below hba).alloc (.cells #[] 5)
  clear hT w0
  obtain ⟨v3, w3, hrun, hown3, hg3, hob3⟩ : ∃ v' w', (Builtin.append_ #[22, 22] 22 #[.slice (some ⟨wa.heap.size, 0, none⟩) 0 0, .slice a0 len0 cap0]).run Tryd.prog (wa.alloc (.cells #[] 5)) = .ok v' w' ∧ w'.ownsRow wa.heap.size 5 1 v' (0 + len0) ([] ++ vals x0) ∧ (wa.alloc (.cells #[] 5)).grownBy w' (Value.slice (some ⟨wa.heap.size, 0, none⟩) 0 0).ownBlock ∧ (v'.ownBlock = (Value.slice (some ⟨wa.heap.size, 0, none⟩) 0 0).ownBlock ∨ ∃ g', v'.ownBlock = some g' ∧ (wa.alloc (.cells #[] 5)).heap.size ≤ g') :=
    app_long (wa.alloc (.cells #[] 5)) wa.heap.size (.slice (some ⟨wa.heap.size, 0, none⟩) 0 0) 0 [] (World.ownsRow_lit wa #[] 0 (Nat.le_refl _) (Nat.zero_le _) rfl) a0 len0 cap0 x0 hx (by omega) (by simp)
  rw [Nat.zero_add, List.nil_append] at hown3
  obtain ⟨Ao, co, hv3, hlo, hco, hAo⟩ := own_shape hown3
  subst hv3
  have hb3 : Below wa.heap.size wa w3 := ((Below.refl _ _).alloc (Nat.le_refl _) _).grown hg3 (by simp) fun j hj => by have hj : some wa.heap.size = some j := hj; cases hj; exact Nat.le_refl _
  have hbo := Bys.own hown3 HW0.out.2.1
  have hB3 := below_then hba hb3 (Nat.le_refl _)
  clear hg3 hob3 hx
  go_wp2_with (at_builtin; refine wpl_append rfl (.tmp 13) (.tmp 14) 22 rfl _ _ _ rfl rfl hrun ?_)
  clear hrun
  go_wp2_with fail
  refine (HPP.out _ _ _ hbo hlo hco (HTB.out.below hB3)).mono ?_
  intro e w4 hpost
  obtain ⟨hb4, tn, An, lan, can, Kn, lkn, ckn, rfl, hnn⟩ := hpost.all
  clear hpost hbo
  rw [HAT.out, HER.out]
  obtain ⟨w4', hw4'⟩ : ∃ x, w4.alloc (.cells #[.int .u8 tn, .slice An lan can, .slice Kn lkn ckn] 25) = x := ⟨_, rfl⟩
  have hn4 : Below w4.heap.size w4 w4' := by rw [← hw4']; exact below_new _ _
  have q4 : w4'.heap[w4.heap.size]? = some (.cells #[.int .u8 tn, .slice An lan can, .slice Kn lkn ckn] 25) := by rw [← hw4']; exact box_new _ _ _ _ _
  have hz4 : w4.heap.size < w4'.heap.size := by rw [← hw4']; simp
  have hB4 : Below w3.heap.size w3 w4' := below_then hb4 hn4 (Nat.le_refl _)
  have hB4w := below_then hB3 hB4 (Nat.le_refl _)
  go_wp2_with fail
  clear hw4'
  refine (HRP.out _ _ _ (HW0.out.below hB4w) l0 hcm (HTB.out.below hB4w)).mono ?_
  intro e w5 hpost
  obtain ⟨hb5, tm, Am, lam, cam, Km, lkm, ckm, rfl, hmm⟩ := hpost.all
  clear hpost
  rw [HAT.out, HER.out]
  obtain ⟨w6, hw6⟩ : ∃ x, w5.alloc (.cells #[.int .u8 tm, .slice Am lam cam, .slice Km lkm ckm] 25) = x := ⟨_, rfl⟩
  have hn6 : Below w5.heap.size w5 w6 := by rw [← hw6]; exact below_new _ _
  have q6 : w6.heap[w5.heap.size]? = some (.cells #[.int .u8 tm, .slice Am lam cam, .slice Km lkm ckm] 25) := by rw [← hw6]; exact box_new _ _ _ _ _
  have hz6 : w5.heap.size < w6.heap.size := by rw [← hw6]; simp
  have hB6 : Below w4'.heap.size w4' w6 := below_then hb5 hn6 (Nat.le_refl _)
  have q46 := (hB6.block _ hz4).trans q4
  have hB6w := below_then hB4w hB6 (Nat.le_refl _)
  have hown6 := own_below (own_below hown3 hB4) hB6
  have hnn6 := NdC.below hB6 _ _ _ _ (NdC.below hn4 _ _ _ _ hnn)
  have hmm6 := NdC.below hn6 _ _ _ _ hmm
  have s4 := hb4.size
  have s5 := hb5.size
  have sa := hb3.size
  have hfar : ∀ g, w3.heap.size ≤ g → some g ≠ (Value.slice Ao len0 co).ownBlock := fun g hg e => by
    have := (hown3.lt g e.symm).2; omega
  have HNN := Lib.hid (And.intro hnn6 hmm6)
  have HQ := Lib.hid (And.intro q46 q6)
  have HEND := Lib.hid hB6w
  clear hnn6 hmm6 q46 q6 hB6w hnn hmm hB6 hn6 hb5 hB4w hB4 q4 hn4 hb4 hB3 hb3 hown3 HPP HRP
  go_upto_region 5 with (fail)
  clear hw6
  go_wp2_with fail
  go_loopw [11] (fun i wr => ∃ k : Nat, k ≤ len0 ∧ i = .int .i64 k ∧ (∃ zs, tlvc.Fit zs ∧ wr.ownsRow wa.heap.size 5 1 (.slice Ao len0 co) len0 (tlvc.vals zs)) ∧ w6.grownBy wr (Value.slice Ao len0 co).ownBlock) (fun i _ => len0 - (intOf i).toNat)
  case atStart => exact ⟨0, Nat.zero_le _, rfl, ⟨x0, HW0.out.2.1, hown6⟩, World.grownBy.refl _ _⟩
  case round =>
    obtain ⟨k, hk, rfl, ⟨zs, hfz, hown⟩, hgr⟩ := hrel
    by_cases hlt : k < len0
    · obtain ⟨g, hg, hg2, hg3⟩ := hAo k hlt
      subst hg
      obtain ⟨z, hz, hzb⟩ : ∃ z, zs.getD k 0 = z ∧ (0 ≤ z ∧ z ≤ 255) := ⟨_, rfl, hfz.getD k⟩
      have hcell : wr.cell? ⟨g, k, none⟩ = some (.int .u8 (zs.getD k 0)) := by
        obtain ⟨b', off', he, _, hc⟩ := (Bys.own hown hfz).2.2 (by omega)
        cases he
        have := hc k hlt
        rwa [Nat.zero_add] at this
      rw [hz] at hcell
      have hfro := hown.frozenAt k
      clear hAo
      go_wp2
      go_roundw
      case rel =>
        have R := own_step (k := k) (z' := (z + 1) % 256) hfz (by omega) hown hgr
        exact ⟨k + 1, by omega, by go_num, R.1, R.2⟩
      case measure => simp [intOf]; omega
    · obtain ⟨hnn6, hmm6⟩ := HNN.out
      obtain ⟨q46, q6⟩ := HQ.out
      have hst : Stays (fun g => w3.heap.size ≤ g) w6 wr := stays_grown hgr hfar
      have u4 := (hgr.block _ (by omega) (hfar _ s4)).trans q46
      have u6 := (hgr.block _ hz6 (hfar _ (by omega))).trans q6
      have hn7 : NdC (fun g => w3.heap.size ≤ g) wr (ansN R) (.int .u8 tn) (.slice An lan can) (.slice Kn lkn ckn) := NdC.stays hst _ _ _ _ hnn6
      have hm7 : NdC (fun g => w3.heap.size ≤ g) wr (ansN R) (.int .u8 tm) (.slice Am lam cam) (.slice Km lkm ckm) := NdC.stays hst _ _ _ _ (NdC.mono (B' := fun g => w3.heap.size ≤ g) (fun g hg => by have hg : w4'.heap.size ≤ g := hg; show w3.heap.size ≤ g; omega) _ _ _ _ hmm6)
      have hsm := same_of (szN (ansN R)) (ansN R) (ansN R) (Nat.le_refl _) (.agg #[.int .u8 tn, .slice An lan can, .slice Kn lkn ckn]) (.agg #[.int .u8 tm, .slice Am lam cam, .slice Km lkm ckm]) wr ⟨_, _, _, rfl, hn7⟩ ⟨_, _, _, rfl, hm7⟩
      rw [sameN_refl] at hsm
      have HSM := Lib.hid hsm
      have m0 : wr.cell? ⟨w4.heap.size, 0, none⟩ = some (.int .u8 tn) := by rw [Lib.cell_of_heap u4]; rfl
      have m1 : wr.cell? ⟨w4.heap.size, 1, none⟩ = some (.slice An lan can) := by rw [Lib.cell_of_heap u4]; rfl
      have m2 : wr.cell? ⟨w4.heap.size, 2, none⟩ = some (.slice Kn lkn ckn) := by rw [Lib.cell_of_heap u4]; rfl
      have p0 : wr.cell? ⟨w5.heap.size, 0, none⟩ = some (.int .u8 tm) := by rw [Lib.cell_of_heap u6]; rfl
      have p1 : wr.cell? ⟨w5.heap.size, 1, none⟩ = some (.slice Am lam cam) := by rw [Lib.cell_of_heap u6]; rfl
      have p2 : wr.cell? ⟨w5.heap.size, 2, none⟩ = some (.slice Km lkm ckm) := by rw [Lib.cell_of_heap u6]; rfl
      have hend : Below w.heap.size w wr := HEND.out.grown hgr HEND.out.size fun j hj => Nat.le_trans hba.size (hown.lt j hj).1
      have HE := Lib.hid hend
      clear hsm hend hn7 hm7 hst u4 u6 hnn6 hmm6 q46 q6 hgr hown hown6 hAo hfar HNN HQ HEND
      go_wp2_with fail
      refine HSM.out.mono ?_
      rintro e w9 ⟨rfl, hb9⟩
      have hfin := below_then HE.out hb9 (Nat.le_refl _)
      clear hb9 HSM HE
      go_wp2
      go_ret
      exact ⟨rfl, hfin⟩

theorem reads (os : Os) {H : Type} (enc : TypeId × Value → H) : ∃ places, DataW.whole enc Tryd.prog ((txc.laidWorld os).forCall (fun _ _ => 0) ⟨#[], #[.slice none 0 0], []⟩).memory Tryd.f4.params.toList Rows.nodesParsesSpec.vars false (#[.slice none 0 0] : Array Value).toList 8 = some ([.nil], [], places) :=
  ⟨[], by kernel_rfl⟩
set_option maxRecDepth 100000 in
theorem lifted (os : Os) (started : os.Started) (H : Type) (enc : TypeId × Value → H) (F : Stop.Interp) :
    ReturnsInHanded {} Tryd.checked os 4 .any ((OpenSpec.ofChange Rows.nodesParsesSpec).preRow enc Tryd.prog Tryd.f4 Rows.nodesParsesRow.domain false Rows.nodesParsesRow.laid) (((OpenSpec.ofChange Rows.nodesParsesSpec).at F).post enc Tryd.prog Tryd.f4 false true false false) := by
  obtain ⟨places, hx⟩ := reads os enc
  refine returnsInHanded_of_row (C := Tryd.checked) (s := (OpenSpec.ofChange Rows.nodesParsesSpec)) own started (by kernel_rfl) Tryd.func4
    (witness_row_at (enc := enc) (C := Tryd.checked) false (txc.laidWorld os) #[.slice none 0 0] rfl (by kernel_rfl) (by kernel_rfl) (by kernel_rfl)
      (OpenSpec.preRow_of_cond 8 hx (by kernel_rfl) (fun k hk => by cases hk) (by kernel_rfl) (txc.laid_met os _))) ?_
  intro W base args ds gs before hval0 hW hcnd hcond hsz0 hL _ _
  have hval : ∀ (j : Nat) t v, Tryd.f4.params[j]? = some t → args[j]? = some v → Value.okWide Tryd.prog W .any base t v := hval0
  have hW' := hW
  obtain ⟨p, q, hA0, hV, rfl, hfz, hnd⟩ := hW
  have hA : DataW.TrodAll enc Tryd.prog W 0 (fun _ => true) true Tryd.f4.params.toList args.toList ds p := hA0
  have hsz : (DataW.weightsEach Tryd.prog (Tryd.f4.params.toList ++ (OpenSpec.ofChange Rows.nodesParsesSpec).bare.plain.varTypes Tryd.prog) (ds ++ gs)).all (· ≤ reachBytes) = true := hsz0
  rw [Tryd.params4] at hA hval hsz
  obtain ⟨v0, vs0, d0, ds0, p0, q0, hargs, rfl, rfl, h0, r_0⟩ := trodAll_cons hA
  obtain ⟨rfl, rfl, rfl⟩ := trodAll_nil r_0
  obtain rfl : args = #[v0] := by cases args; simp_all
  obtain ⟨rfl, rfl⟩ := trodVars_none hV
  obtain ⟨a0, len0, cap0, rfl⟩ := okWide_slice Tryd.underlying22 (hval 0 22 v0 rfl rfl)
  have k0 := h0
  have lt0 : ∀ x ∈ p0, x.block < W.heap.size := by obtain ⟨m, hm⟩ := k0; exact DataW.trod_lt m _ _ _ hm
  obtain ⟨x0, w0, l0, m0, s0⟩ := tlvc.open_bys Tryd.underlying22 Tryd.underlying5 (by kernel_rfl) h0
  have r0 := tlvc.spots_reach hsz s0 (j := 0) rfl rfl Tryd.underlying22 (of_decide_eq_true (by kernel_rfl))
  clear hA0 hval0
  have hT : txc.Tabs W := txc.tabs_of hL
  refine (walk a0 len0 cap0 x0 W w0 l0 r0 hT).mono fun e W' ⟨he, bel⟩ => ?_
  subst he
  exact ⟨_, rfl, _, _, _, [], _, [], hW', trodAll_mk1 (shut_bool Tryd.underlying4 _), (trodAll_cons_mk (Below.trod laidOut (by kernel_rfl) (of_decide_eq_true (by kernel_rfl)) k0 bel lt0) trodAll_mk0), rfl, bel.frame _, fun h => by cases h⟩

theorem over : Rows.nodesParsesRow.holds Tryd.pinned (OpenSpec.ofChange Rows.nodesParsesSpec) :=
  OpenClaim.holds_of_cond 4 Tryd.f4 rfl rfl rfl rfl rfl rfl rfl ⟨rfl, rfl, rfl, rfl, rfl⟩ rfl rfl rfl rfl rfl (by kernel_rfl) Tryd.func4 (by kernel_rfl)
    (of_decide_eq_true (by kernel_rfl)) (by unfold Func.isWrapper; first | (rw [if_pos (by decide +kernel)]; kernel_rfl) | (rw [if_neg (by decide +kernel)]; exact ⟨rfl, rfl⟩))
    (fun os started H enc _ F => by rw [OpenClaim.pre_eq_preRow]; exact lifted os started H enc F)

theorem plain (f : FuncId) (fn : Func) (hf : Tryd.pinned.checked.prog.funcNamed "warder/warderlaw04.NodesParses" = some f) (hfn : Tryd.pinned.checked.prog.funcs[f]? = some fn) :
    true = Tryd.pinned.checked.prog.looks [] ∧ ∀ (j : Nat) t, fn.params[j]? = some t → Tryd.pinned.checked.prog.wantsStandIn t = false := by
  obtain rfl : f = 4 := Option.some.inj ((show Tryd.prog.funcNamed "warder/warderlaw04.NodesParses" = some 4 by kernel_rfl).symm.trans hf) |>.symm
  obtain rfl : fn = Tryd.f4 := (Option.some.inj (Tryd.func4.symm.trans hfn)).symm
  refine ⟨by kernel_rfl, fun j t ht => ?_⟩
  rw [Tryd.params4] at ht
  match j, ht with
    | 0, ht => obtain rfl : t = 22 := (Option.some.inj ht).symm; exact (show Tryd.prog.wantsStandIn 22 = false by kernel_rfl)
    | j + 1, ht => simp at ht

theorem proved : Rows.NodesParsesCardSaid :=
  Claim7.holds_tied_plain_at .later [] _ _ _ _ over (fun _ h => by cases h) (by kernel_rfl) (fun _ h => by cases h) nodesParses_row_tie rfl ⟨rfl, rfl⟩ (by kernel_rfl) rfl plain (by kernel_rfl)
#print axioms proved
end Go.Proofs.YtaafgohaikhekaaDoor.nodesParses
