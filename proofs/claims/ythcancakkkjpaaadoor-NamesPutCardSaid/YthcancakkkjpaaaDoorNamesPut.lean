/- The law NamesPut of warderlaw09 answers true for every name and every principal, and leaves its arguments as they were; no condition but that the library's two tables are as its text lays them. -/
import Derived.Test.YthcancakkkjpaaaDoorCards
import Derived.Test.YthcancakkkjpaaaDoorTie
import Derived.WalkKit
import Derived.ProofKit
import Derived.OpenShut
import Derived.ChangeOld
import Derived.Below
import Derived.SizedLaws
import Derived.Test.YthcancakkkjpaaaDoorKb
import Derived.Test.YthcancakkkjpaaaDoorXc
import Derived.Test.YthcancakkkjpaaaDoorRr
namespace Go.Proofs.YthcancakkkjpaaaDoor.namesPut
open Go.ChangeShapes Go.WideShapes Go.ChangeAt Go.RowKit
set_option linter.unusedVariables false

theorem own : ownKnob Tryd.prog.godebug = none := by kernel_rfl
theorem laidOut : laidOutB Tryd.prog = true := by kernel_rfl

open Go.Proofs.YthcancakkkjpaaaDoor.tlvc Go.Proofs.YthcancakkkjpaaaDoor.ndc Go.Proofs.YthcancakkkjpaaaDoor.txc Go.Proofs.YthcancakkkjpaaaDoor.nmc
theorem cells2 {l : List Value} (h : l.length = 2) : ∃ a0 a1, l = [a0, a1] := by
  match l, h with
  | [a0, a1], _ => exact ⟨a0, a1, rfl⟩

set_option maxRecDepth 100000 in
set_option maxHeartbeats 8000000 in
theorem walk (a0 : Option Addr) (len0 cap0 : Nat) (x0 : List dtc.Dt) (x1 : List dtc.Dt) (c1_0 c1_1 : Value) (w : World) (e0 : x0.length = len0) (s0 : ∀ x ∈ x0, dtc.IsSh (.agg [.row (.int .i64), .str]) x) (w0 : 0 < len0 → ∃ g off, a0 = some ⟨g, off, none⟩ ∧ g < w.heap.size ∧ dtc.LiesRow (fun _ => True) w g (dtc.Sh.sz (.agg [.row (.int .i64), .str])) off x0) (l0 : len0 ≤ cap0) (m0 : cap0 ≤ maxLen) (y0 : dtc.fitDts x0) (s1 : dtc.IsShs [.str, .row (.str)] x1) (w1 : dtc.LiesAll (fun _ => True) w x1 [c1_0, c1_1]) (y1 : dtc.fitDts x1) (hT : txc.Tabs w) :
    Calls Tryd.prog 3 #[.slice a0 len0 cap0, .agg #[c1_0, c1_1]] w fun e w' => e = .returned (.bool true) ∧ Below w.heap.size w w' := by
  have m0' := m0
  obtain ⟨l, hl, hL, hz⟩ := name_of s0 y0 e0 w0
  obtain ⟨p, hp, hz1, hz2⟩ := princ_of s1 w1 y1
  have hpc := hp
  obtain ⟨A1, cp1, rfl, rfl, _⟩ := hp
  obtain ⟨n1, hn1⟩ : ∃ x, p.names.length = x := ⟨_, rfl⟩
  obtain ⟨s, hs⟩ : ∃ x, p.realm = x := ⟨_, rfl⟩
  rw [hn1, hs] at hpc ⊢
  obtain ⟨W0, hW0⟩ : ∃ x, w.alloc (.cells #[.string s, .slice A1 n1 cp1] 26) = x := ⟨_, rfl⟩
  have hb0 : Below w.heap.size w W0 := by rw [← hW0]; exact below_new _ _
  have p0 : W0.heap[w.heap.size]? = some (.cells #[.string s, .slice A1 n1 cp1] 26) := by rw [← hW0]; exact heap_new_ _ _
  have hbw := fun W (hW : Below W0.heap.size W0 W) => below_then hb0 hW (Nat.le_refl _)
  have hbx : ∀ W, Below W0.heap.size W0 W → W.cell? ⟨w.heap.size, 0, none⟩ = some (.string s) ∧ W.cell? ⟨w.heap.size, 1, none⟩ = some (.slice A1 n1 cp1) := fun W hW => ⟨cell_on hW ((Lib.cell_of_heap p0 _).trans rfl), cell_on hW ((Lib.cell_of_heap p0 _).trans rfl)⟩
  have HBX := Lib.hid hbx
  have HHD := Lib.hid (head_any W0 (hT.below hb0))
  have HPUT := Lib.hid (fun W (hW : Below W0.heap.size W0 W) => put_any _ a0 len0 cap0 l W hl (hL.below (hbw W hW)) l0 m0 (hT.below (hbw W hW)))
  have HRPUT := Lib.hid (fun W (hW : Below W0.heap.size W0 W) => rput_any _ a0 len0 cap0 l W hl (hL.below (hbw W hW)) l0 m0 (hT.below (hbw W hW)))
  have HPP := Lib.hid (fun W (hW : Below W0.heap.size W0 W) => putPrinc_any _ p _ _ W (hpc.below (hbw W hW)) (hT.below (hbw W hW)))
  have HRPP := Lib.hid (fun W (hW : Below W0.heap.size W0 W) => rputPrinc_any _ p _ _ W (hpc.below (hbw W hW)) (hT.below (hbw W hW)))
  have HBW := Lib.hid hbw
  obtain ⟨rn, hrn⟩ : ∃ x, nameF l = x := ⟨_, rfl⟩
  obtain ⟨rp, hrp⟩ : ∃ x, princF p = x := ⟨_, rfl⟩
  rw [hrn] at HPUT HRPUT
  rw [hrp] at HPP HRPP
  obtain ⟨en, hen⟩ : ∃ x, codeN rn = x := ⟨_, rfl⟩
  obtain ⟨ep, hep⟩ : ∃ x, codeN rp = x := ⟨_, rfl⟩
  have HEN := Lib.hid hen
  have HEP := Lib.hid hep
  clear hen hep
  clear hl hL hz hz1 hz2 hpc hn1 hs hbw hbx p0 hb0 hT w0 w1 y0 y1 s0 s1 e0 m0 m0' hrn hrp l0
  go_enter Tryd.func3, Tryd.ntmps3
  go_wp2_with fail
  refine HHD.out.mono ?_
  rintro e wa ⟨rfl, hba⟩
  have HA := Lib.hid hba
  have HC := Lib.hid (HPUT.out wa hba)
  clear hba HHD HPUT hW0
  go_wp2_with fail
  refine HC.out.mono ?_
  rintro e wb hpost
  obtain ⟨hb, t1, A2, l2, c2, K2, m2, k2, er1, rfl, her1, hn1⟩ := hpost.any
  rw [HEN.out] at her1
  subst her1
  have hbb := below_then (below_then HA.out hb (Nat.le_refl _)) (below_new wb (.cells #[.int .u8 t1, .slice A2 l2 c2, .slice K2 m2 k2] 31)) (Nat.le_refl _)
  have q1 := heap_new_ wb (.cells #[.int .u8 t1, .slice A2 l2 c2, .slice K2 m2 k2] 31)
  have hn1 := NdC.below (below_new wb (.cells #[.int .u8 t1, .slice A2 l2 c2, .slice K2 m2 k2] 31)) _ _ _ _ hn1
  have HC2 := Lib.hid (HRPUT.out _ hbb)
  have H1 := Lib.hid (And.intro hbb (And.intro q1 hn1))
  clear hpost hb hbb q1 hn1 HC HRPUT HA
  go_wp2_with fail
  refine HC2.out.mono ?_
  rintro e wc hpost
  obtain ⟨hb, t3, A3, l3, c3, K3, m3, k3, er2, rfl, her2, hn2⟩ := hpost.any
  rw [HEN.out] at her2
  subst her2
  have hbc := below_then hb (below_new wc (.cells #[.int .u8 t3, .slice A3 l3 c3, .slice K3 m3 k3] 31)) (Nat.le_refl _)
  have q2 := heap_new_ wc (.cells #[.int .u8 t3, .slice A3 l3 c3, .slice K3 m3 k3] 31)
  have hn2 := NdC.below (below_new wc (.cells #[.int .u8 t3, .slice A3 l3 c3, .slice K3 m3 k3] 31)) _ _ _ _ hn2
  have q1 := (hbc.block _ (Array.getElem?_eq_some_iff.1 H1.out.2.1).1).trans H1.out.2.1
  have hn1 := NdC.below hbc _ _ _ _ H1.out.2.2
  have hbw := below_then H1.out.1 hbc (Nat.le_refl _)
  obtain ⟨b0, b1⟩ := HBX.out _ hbw
  have HC3 := Lib.hid (HPP.out _ hbw)
  have H2 := Lib.hid (And.intro hbw (And.intro q1 (And.intro hn1 (And.intro q2 hn2))))
  clear hpost hb hbc hbw q1 q2 hn1 hn2 HC2 HPP H1
  go_wp2_with fail
  refine HC3.out.mono ?_
  rintro e wd hpost
  obtain ⟨hb, t4, A4, l4, c4, K4, m4, k4, er3, rfl, her3, hn3⟩ := hpost.any
  rw [HEP.out] at her3
  subst her3
  have hbc := below_then hb (below_new wd (.cells #[.int .u8 t4, .slice A4 l4 c4, .slice K4 m4 k4] 31)) (Nat.le_refl _)
  have q3 := heap_new_ wd (.cells #[.int .u8 t4, .slice A4 l4 c4, .slice K4 m4 k4] 31)
  have hn3 := NdC.below (below_new wd (.cells #[.int .u8 t4, .slice A4 l4 c4, .slice K4 m4 k4] 31)) _ _ _ _ hn3
  have q1 := (hbc.block _ (Array.getElem?_eq_some_iff.1 H2.out.2.1).1).trans H2.out.2.1
  have hn1 := NdC.below hbc _ _ _ _ H2.out.2.2.1
  have q2 := (hbc.block _ (Array.getElem?_eq_some_iff.1 H2.out.2.2.2.1).1).trans H2.out.2.2.2.1
  have hn2 := NdC.below hbc _ _ _ _ H2.out.2.2.2.2
  have hbw := below_then H2.out.1 hbc (Nat.le_refl _)
  clear b0 b1
  obtain ⟨b0, b1⟩ := HBX.out _ hbw
  have HC4 := Lib.hid (HRPP.out _ hbw)
  have H3 := Lib.hid (And.intro hbw (And.intro q1 (And.intro hn1 (And.intro q2 (And.intro hn2 (And.intro q3 hn3))))))
  clear hpost hb hbc hbw q1 q2 q3 hn1 hn2 hn3 HC3 HRPP H2 HBX
  go_wp2_with fail
  refine HC4.out.mono ?_
  rintro e we hpost
  obtain ⟨hb, t5, A5, l5, c5, K5, m5, k5, er4, rfl, her4, hn4⟩ := hpost.any
  rw [HEP.out] at her4
  subst her4
  have hbc := below_then hb (below_new we (.cells #[.int .u8 t5, .slice A5 l5 c5, .slice K5 m5 k5] 31)) (Nat.le_refl _)
  have q4 := heap_new_ we (.cells #[.int .u8 t5, .slice A5 l5 c5, .slice K5 m5 k5] 31)
  have hn4 := NdC.below (below_new we (.cells #[.int .u8 t5, .slice A5 l5 c5, .slice K5 m5 k5] 31)) _ _ _ _ hn4
  have q1 := (hbc.block _ (Array.getElem?_eq_some_iff.1 H3.out.2.1).1).trans H3.out.2.1
  have hn1 := NdC.below hbc _ _ _ _ H3.out.2.2.1
  have q2 := (hbc.block _ (Array.getElem?_eq_some_iff.1 H3.out.2.2.2.1).1).trans H3.out.2.2.2.1
  have hn2 := NdC.below hbc _ _ _ _ H3.out.2.2.2.2.1
  have q3 := (hbc.block _ (Array.getElem?_eq_some_iff.1 H3.out.2.2.2.2.2.1).1).trans H3.out.2.2.2.2.2.1
  have hn3 := NdC.below hbc _ _ _ _ H3.out.2.2.2.2.2.2
  have hbw := below_then H3.out.1 hbc (Nat.le_refl _)
  obtain ⟨W5, hW5⟩ : ∃ x, we.alloc (.cells #[.int .u8 t5, .slice A5 l5 c5, .slice K5 m5 k5] 31) = x := ⟨_, rfl⟩
  rw [hW5] at q1 q2 q3 q4 hn1 hn2 hn3 hn4 hbw
  have hs1 := same_self _ _ _ _ _ _ _ _ _ W5 hn1 hn2
  have hs2 := fun W (hW : Below W5.heap.size W5 W) => same_self _ _ _ _ _ _ _ _ _ W (NdC.below hW _ _ _ _ hn3) (NdC.below hW _ _ _ _ hn4)
  obtain ⟨x0, x1, x2⟩ := box_nd (Below.refl _ W5) q1
  obtain ⟨y0, y1, y2⟩ := box_nd (Below.refl _ W5) q2
  have HS1 := Lib.hid hs1
  have HS2 := Lib.hid hs2
  have HQ := Lib.hid (fun W (hW : Below W5.heap.size W5 W) => And.intro (box_nd hW q3) (box_nd hW q4))
  have HF := Lib.hid (HBW.out W5 hbw)
  clear hpost hb hbc hbw q1 q2 q3 q4 hn1 hn2 hn3 hn4 HC4 H3 hs1 hs2 b0 b1 HBW
  go_wp2_with fail
  refine HS1.out.mono ?_
  rintro e wf ⟨rfl, hbf⟩
  obtain ⟨⟨u0, u1, u2⟩, v0, v1, v2⟩ := HQ.out wf hbf
  have HS3 := Lib.hid (HS2.out wf hbf)
  have HF2 := Lib.hid (below_then HF.out hbf (Nat.le_refl _))
  clear hbf HS1 HS2 HQ HF hW5
  go_wp2_with fail
  refine HS3.out.mono ?_
  rintro e wg ⟨rfl, hbg⟩
  have HF3 := Lib.hid (below_then HF2.out hbg (Nat.le_refl _))
  clear hbg HS3 HF2
  go_wp2
  go_ret
  exact ⟨rfl, HF3.out⟩

theorem reads (os : Os) {H : Type} (enc : TypeId × Value → H) : ∃ places, DataW.whole enc Tryd.prog ((txc.laidWorld os).forCall (fun _ _ => 0) ⟨#[], #[.slice none 0 0, .agg #[.string ⟨#[]⟩, .slice none 0 0]], []⟩).memory Tryd.f3.params.toList Rows.namesPutSpec.vars false (#[.slice none 0 0, .agg #[.string ⟨#[]⟩, .slice none 0 0]] : Array Value).toList 8 = some ([.nil, .agg [.lit (.string []), .nil]], [], places) :=
  ⟨[], by kernel_rfl⟩
set_option maxRecDepth 100000 in
theorem lifted (os : Os) (started : os.Started) (H : Type) (enc : TypeId × Value → H) (F : Stop.Interp) :
    ReturnsInHanded {} Tryd.checked os 3 .any ((OpenSpec.ofChange Rows.namesPutSpec).preRow enc Tryd.prog Tryd.f3 Rows.namesPutRow.domain false Rows.namesPutRow.laid) (((OpenSpec.ofChange Rows.namesPutSpec).at F).post enc Tryd.prog Tryd.f3 false true false false) := by
  obtain ⟨places, hx⟩ := reads os enc
  refine returnsInHanded_of_row (C := Tryd.checked) (s := (OpenSpec.ofChange Rows.namesPutSpec)) own started (by kernel_rfl) Tryd.func3
    (witness_row_at (enc := enc) (C := Tryd.checked) false (txc.laidWorld os) #[.slice none 0 0, .agg #[.string ⟨#[]⟩, .slice none 0 0]] rfl (by kernel_rfl) (by kernel_rfl) (by kernel_rfl)
      (OpenSpec.preRow_of_cond 8 hx (by kernel_rfl) (fun k hk => by cases hk) (by kernel_rfl) (txc.laid_met os _))) ?_
  intro W base args ds gs before hval0 hW hcnd hcond hsz0 hL _ _
  have hval : ∀ (j : Nat) t v, Tryd.f3.params[j]? = some t → args[j]? = some v → Value.okWide Tryd.prog W .any base t v := hval0
  have hW' := hW
  obtain ⟨p, q, hA0, hV, rfl, hfz, hnd⟩ := hW
  have hA : DataW.TrodAll enc Tryd.prog W 0 (fun _ => true) true Tryd.f3.params.toList args.toList ds p := hA0
  have hsz : (DataW.weightsEach Tryd.prog (Tryd.f3.params.toList ++ (OpenSpec.ofChange Rows.namesPutSpec).bare.plain.varTypes Tryd.prog) (ds ++ gs)).all (· ≤ reachBytes) = true := hsz0
  rw [Tryd.params3] at hA hval hsz
  obtain ⟨v0, vs0, d0, ds0, p0, q0, hargs, rfl, rfl, h0, r_0⟩ := trodAll_cons hA
  obtain ⟨v1, vs1, d1, ds1, p1, q1, rfl, rfl, rfl, h1, r_1⟩ := trodAll_cons r_0
  obtain ⟨rfl, rfl, rfl⟩ := trodAll_nil r_1
  obtain rfl : args = #[v0, v1] := by cases args; simp_all
  obtain ⟨rfl, rfl⟩ := trodVars_none hV
  obtain ⟨a0, len0, cap0, rfl⟩ := okWide_slice Tryd.underlying23 (hval 0 23 v0 rfl rfl)
  have k0 := h0
  have lt0 : ∀ x ∈ p0, x.block < W.heap.size := by obtain ⟨m, hm⟩ := k0; exact DataW.trod_lt m _ _ _ hm
  obtain ⟨x0, e0, s0, w0, l0, m0, z0⟩ := dtc.open_row (s := .agg [.row (.int .i64), .str]) (dtc.fit_row Tryd.underlying23 (dtc.fit_agg Tryd.underlying49 (by kernel_rfl) (dtc.fits_cons (by kernel_rfl) (dtc.fit_row Tryd.underlying47 (dtc.fit_int Tryd.underlying3 (by kernel_rfl)) (by kernel_rfl) (by kernel_rfl)) (dtc.fits_cons (by kernel_rfl) (dtc.fit_str Tryd.underlying9 (by kernel_rfl)) dtc.fits_nil))) (by kernel_rfl) (by kernel_rfl)) h0
  have y0 := z0 (dtc.each_fit hsz (j := 0) rfl rfl)
  have k1 := h1
  have lt1 : ∀ x ∈ p1, x.block < W.heap.size := by obtain ⟨m, hm⟩ := k1; exact DataW.trod_lt m _ _ _ hm
  obtain ⟨cl1, x1, rfl, cn1, s1, w1, z1⟩ := dtc.open_agg (l := [.str, .row (.str)]) Tryd.underlying26 (dtc.fit_agg Tryd.underlying26 (by kernel_rfl) (dtc.fits_cons (by kernel_rfl) (dtc.fit_str Tryd.underlying9 (by kernel_rfl)) (dtc.fits_cons (by kernel_rfl) (dtc.fit_row Tryd.underlying24 (dtc.fit_str Tryd.underlying9 (by kernel_rfl)) (by kernel_rfl) (by kernel_rfl)) dtc.fits_nil))) (hval 1 26 v1 rfl rfl) h1
  have y1 := z1 (dtc.each_fit hsz (j := 1) rfl rfl)
  have cn1 : cl1.length = 2 := by simpa [dtc.szs, dtc.Sh.sz] using cn1
  obtain ⟨c1_0, c1_1, ecl1⟩ := cells2 cn1
  subst ecl1
  clear hA0 hval0
  have hT : txc.Tabs W := txc.tabs_of hL
  refine (walk a0 len0 cap0 x0 x1 c1_0 c1_1 W e0 s0 w0 l0 m0 y0 s1 w1 y1 hT).mono fun e W' ⟨he, bel⟩ => ?_
  subst he
  exact ⟨_, rfl, _, _, _, [], _, [], hW', trodAll_mk1 (shut_bool Tryd.underlying4 _), (trodAll_cons_mk (Below.trod laidOut (by kernel_rfl) (of_decide_eq_true (by kernel_rfl)) k0 bel lt0) (trodAll_cons_mk (Below.trod laidOut (by kernel_rfl) (of_decide_eq_true (by kernel_rfl)) k1 bel lt1) trodAll_mk0)), rfl, bel.frame _, fun h => by cases h⟩

theorem over : Rows.namesPutRow.holds Tryd.pinned (OpenSpec.ofChange Rows.namesPutSpec) :=
  OpenClaim.holds_of_cond 3 Tryd.f3 rfl rfl rfl rfl rfl rfl rfl ⟨rfl, rfl, rfl, rfl, rfl⟩ rfl rfl rfl rfl rfl (by kernel_rfl) Tryd.func3 (by kernel_rfl)
    (of_decide_eq_true (by kernel_rfl)) (by unfold Func.isWrapper; first | (rw [if_pos (by decide +kernel)]; kernel_rfl) | (rw [if_neg (by decide +kernel)]; exact ⟨rfl, rfl⟩))
    (fun os started H enc _ F => by rw [OpenClaim.pre_eq_preRow]; exact lifted os started H enc F)

theorem plain (f : FuncId) (fn : Func) (hf : Tryd.pinned.checked.prog.funcNamed "warder/warderlaw09.NamesPut" = some f) (hfn : Tryd.pinned.checked.prog.funcs[f]? = some fn) :
    true = Tryd.pinned.checked.prog.looks [] ∧ ∀ (j : Nat) t, fn.params[j]? = some t → Tryd.pinned.checked.prog.wantsStandIn t = false := by
  obtain rfl : f = 3 := Option.some.inj ((show Tryd.prog.funcNamed "warder/warderlaw09.NamesPut" = some 3 by kernel_rfl).symm.trans hf) |>.symm
  obtain rfl : fn = Tryd.f3 := (Option.some.inj (Tryd.func3.symm.trans hfn)).symm
  refine ⟨by kernel_rfl, fun j t ht => ?_⟩
  rw [Tryd.params3] at ht
  match j, ht with
    | 0, ht => obtain rfl : t = 23 := (Option.some.inj ht).symm; exact (show Tryd.prog.wantsStandIn 23 = false by kernel_rfl)
    | 1, ht => obtain rfl : t = 26 := (Option.some.inj ht).symm; exact (show Tryd.prog.wantsStandIn 26 = false by kernel_rfl)
    | j + 2, ht => simp at ht

theorem proved : Rows.NamesPutCardSaid :=
  Claim7.holds_tied_plain_at .later [] _ _ _ _ over (fun _ h => by cases h) (by kernel_rfl) (fun _ h => by cases h) namesPut_row_tie rfl ⟨rfl, rfl⟩ (by kernel_rfl) rfl plain (by kernel_rfl)
#print axioms proved
end Go.Proofs.YthcancakkkjpaaaDoor.namesPut
