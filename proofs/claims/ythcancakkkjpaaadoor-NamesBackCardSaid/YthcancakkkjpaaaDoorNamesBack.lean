/- The law NamesBack of warderlaw09 answers true for every name, principal and node, and leaves its arguments as they were; no condition but that the library's two tables are as its text lays them. -/
import Derived.Test.YthcancakkkjpaaaDoorCards
import Derived.Test.YthcancakkkjpaaaDoorTie
import Derived.WalkKit
import Derived.ProofKit
import Derived.OpenShut
import Derived.ChangeOld
import Derived.Below
import Derived.SizedLaws
import Derived.Test.YthcancakkkjpaaaDoorKb
import Derived.Test.YthcancakkkjpaaaDoorXc
import Derived.Test.YthcancakkkjpaaaDoorSb
namespace Go.Proofs.YthcancakkkjpaaaDoor.namesBack
open Go.ChangeShapes Go.WideShapes Go.ChangeAt Go.RowKit
set_option linter.unusedVariables false

theorem own : ownKnob Tryd.prog.godebug = none := by kernel_rfl
theorem laidOut : laidOutB Tryd.prog = true := by kernel_rfl

open Go.Proofs.YthcancakkkjpaaaDoor.tlvc Go.Proofs.YthcancakkkjpaaaDoor.tlvd Go.Proofs.YthcancakkkjpaaaDoor.ndc Go.Proofs.YthcancakkkjpaaaDoor.txc Go.Proofs.YthcancakkkjpaaaDoor.nmc
theorem cells2 {l : List Value} (h : l.length = 2) : ∃ a0 a1, l = [a0, a1] := by
  match l, h with
  | [a0, a1], _ => exact ⟨a0, a1, rfl⟩

set_option maxRecDepth 100000 in
set_option maxHeartbeats 16000000 in
theorem walk (a0 : Option Addr) (len0 cap0 : Nat) (x0 : List dtc.Dt) (x1 : List dtc.Dt) (c1_0 c1_1 : Value) (n2 : ndc.Nd) (c2_0 c2_1 c2_2 : Value) (w : World) (e0 : x0.length = len0) (s0 : ∀ x ∈ x0, dtc.IsSh (.agg [.row (.int .i64), .str]) x) (w0 : 0 < len0 → ∃ g off, a0 = some ⟨g, off, none⟩ ∧ g < w.heap.size ∧ dtc.LiesRow (fun _ => True) w g (dtc.Sh.sz (.agg [.row (.int .i64), .str])) off x0) (l0 : len0 ≤ cap0) (m0 : cap0 ≤ maxLen) (y0 : dtc.fitDts x0) (s1 : dtc.IsShs [.str, .row (.str)] x1) (w1 : dtc.LiesAll (fun _ => True) w x1 [c1_0, c1_1]) (y1 : dtc.fitDts x1) (w2 : ndc.NdC (fun _ => True) w n2 c2_0 c2_1 c2_2) (hT : txc.Tabs w) :
    Calls Tryd.prog 5 #[.slice a0 len0 cap0, .agg #[c1_0, c1_1], .agg #[c2_0, c2_1, c2_2]] w fun e w' => e = .returned (.bool true) ∧ Below w.heap.size w w' := by
  obtain ⟨l, hl, hL, hz⟩ := name_of s0 y0 e0 w0
  obtain ⟨p, hp, hz1, hz2⟩ := princ_of s1 w1 y1
  obtain ⟨tk, Ak, lak, cak, Kk, lkk, ckk, ec0, ec1, ec2⟩ := w2.shape
  subst ec0 ec1 ec2
  have hpc := hp
  obtain ⟨A1, cp1, rfl, rfl, _⟩ := hp
  obtain ⟨n1, hn1⟩ : ∃ x, p.names.length = x := ⟨_, rfl⟩
  obtain ⟨s, hs⟩ : ∃ x, p.realm = x := ⟨_, rfl⟩
  rw [hn1, hs] at hpc ⊢
  obtain ⟨W0, hW0⟩ : ∃ x, (w.alloc (.cells #[.string s, .slice A1 n1 cp1] 26)).alloc (.cells #[.int .u8 tk, .slice Ak lak cak, .slice Kk lkk ckk] 31) = x := ⟨_, rfl⟩
  have hb0 : Below w.heap.size w W0 := by rw [← hW0]; exact (below_new _ _).alloc (by simp) _
  have p0 : W0.heap[w.heap.size]? = some (.cells #[.string s, .slice A1 n1 cp1] 26) := by rw [← hW0, heap_old_ _ _ (by simp)]; exact heap_new_ _ _
  have q0 : W0.heap[w.heap.size + 1]? = some (.cells #[.int .u8 tk, .slice Ak lak cak, .slice Kk lkk ckk] 31) := by rw [← hW0]; exact heap_is (by simp)
  have hbw := fun W (hW : Below W0.heap.size W0 W) => below_then hb0 hW (Nat.le_refl _)
  have hTT : ∀ W, Below W0.heap.size W0 W → Tabs W := fun W hW => hT.below (hbw W hW)
  have hnd : ∀ W, Below W0.heap.size W0 W → NdC (fun _ => True) W n2 (.int .u8 tk) (.slice Ak lak cak) (.slice Kk lkk ckk) := fun W hW => NdC.below (hbw W hW) _ _ _ _ w2
  have hbx : ∀ W, Below W0.heap.size W0 W → W.cell? ⟨w.heap.size, 0, none⟩ = some (.string s) ∧ W.cell? ⟨w.heap.size, 1, none⟩ = some (.slice A1 n1 cp1) := fun W hW => ⟨cell_on hW ((Lib.cell_of_heap p0 _).trans rfl), cell_on hW ((Lib.cell_of_heap p0 _).trans rfl)⟩
  have hkx := fun W (hW : Below W0.heap.size W0 W) => box_nd hW q0
  have HBX := Lib.hid hbx
  have HKX := Lib.hid hkx
  have HTT := Lib.hid hTT
  have HND := Lib.hid hnd
  have HHD := Lib.hid (head_any W0 (hT.below hb0))
  have HLEN := Lib.hid hl
  have HPUT := Lib.hid (fun W (hW : Below W0.heap.size W0 W) => put_any _ a0 len0 cap0 l W hl (hL.below (hbw W hW)) l0 m0 (hTT W hW))
  have HAL := Lib.hid (fun W (hW : Below W0.heap.size W0 W) A c (h : Lst atE (fun _ => True) W A l) (h1 : len0 ≤ c) (h2 : c ≤ maxLen) => ralike_self _ _ A a0 len0 c cap0 l W hl h (hL.below (hbw W hW)) h1 h2 l0 m0)
  have HPP := Lib.hid (fun W (hW : Below W0.heap.size W0 W) => putPrinc_any _ p _ _ W (hpc.below (hbw W hW)) (hTT W hW))
  have HALP := Lib.hid (fun W (hW : Below W0.heap.size W0 W) d0 d1 (h : PrC (fun _ => True) W p d0 d1) => ralikeP_self _ _ p _ _ d0 d1 W (hpc.below (hbw W hW)) h)
  obtain ⟨P, hP⟩ : ∃ x, partsF n2 5000 = x := ⟨_, rfl⟩
  have hpar := fun (W : World) (hW : Below W0.heap.size W0 W) => parts_of _ n2 (Nat.le_refl _) (.agg #[.int .u8 tk, .slice Ak lak cak, .slice Kk lkk ckk]) 5000 W ⟨_, _, _, rfl, hnd W hW⟩ (by omega) (by omega)
  rw [hP] at hpar
  have HPAR := Lib.hid hpar
  have HBW := Lib.hid hbw
  have hgn := fun m (h : nameF l = some m) => getN_of h
  have hgp := fun m (h : princF p = some m) => getP_of h
  have hkn := fun x (h : getN n2 = some x) => nameF_back h
  have hkp := fun x (h : getP n2 = some x) => princF_back h
  have hgK := fun W (hW : Below W0.heap.size W0 W) => get_any _ n2 _ _ _ W (hnd W hW) (hTT W hW)
  have hgQ := fun W (hW : Below W0.heap.size W0 W) => getPrinc_any _ n2 _ _ _ W (hnd W hW) (hTT W hW)
  obtain ⟨rn, hrn⟩ : ∃ x, nameF l = x := ⟨_, rfl⟩
  obtain ⟨rp, hrp⟩ : ∃ x, princF p = x := ⟨_, rfl⟩
  obtain ⟨gn, hgn_⟩ : ∃ x, getN n2 = x := ⟨_, rfl⟩
  obtain ⟨gp, hgp_⟩ : ∃ x, getP n2 = x := ⟨_, rfl⟩
  rw [hrn] at HPUT hgn
  rw [hrp] at HPP hgp
  rw [hgn_] at hgK hkn
  rw [hgp_] at hgQ hkp
  have HGN := Lib.hid hgn
  have HGP := Lib.hid hgp
  have HKN := Lib.hid hkn
  have HKP := Lib.hid hkp
  have HGK := Lib.hid hgK
  have HGQ := Lib.hid hgQ
  obtain ⟨en, hen⟩ : ∃ x, codeN rn = x := ⟨_, rfl⟩
  obtain ⟨ep, hep⟩ : ∃ x, codeN rp = x := ⟨_, rfl⟩
  obtain ⟨fn, hfn⟩ : ∃ x, codeL gn = x := ⟨_, rfl⟩
  obtain ⟨fp, hfp⟩ : ∃ x, codeP gp = x := ⟨_, rfl⟩
  have HEN := Lib.hid hen
  have HEP := Lib.hid hep
  have HFN := Lib.hid hfn
  have HFP := Lib.hid hfp
  clear hen hep hfn hfp hrn hrp hgn_ hgp_ hgn hgp hkn hkp hgK hgQ hpar hP
  clear hl hL hz hz1 hz2 hpc hn1 hs hbw hbx hkx hnd hTT p0 q0 hb0 hT w0 w1 w2 y0 y1 s0 s1 e0 m0 l0
  go_enter Tryd.func5, Tryd.ntmps5
  go_wp2_with fail
  refine HHD.out.mono ?_
  rintro e wa ⟨rfl, hba⟩
  have HA := Lib.hid hba
  have HC := Lib.hid (HPUT.out wa hba)
  clear hba HHD HPUT hW0
  go_wp2_with fail
  refine HC.out.mono ?_
  rintro e wb hpost
  obtain ⟨hb, t1, A2, l2, c2, K2, m2, k2, er1, rfl, her1, hn1⟩ := hpost.any
  rw [HEN.out] at her1
  subst her1
  have hb9 := (below_then HA.out hb (Nat.le_refl _)).size
  have hbb := below_then (below_then HA.out hb (Nat.le_refl _)) (below_new wb (.cells #[.int .u8 t1, .slice A2 l2 c2, .slice K2 m2 k2] 31)) (Nat.le_refl _)
  have q1 := heap_new_ wb (.cells #[.int .u8 t1, .slice A2 l2 c2, .slice K2 m2 k2] 31)
  have hn1 := NdC.below (below_new wb (.cells #[.int .u8 t1, .slice A2 l2 c2, .slice K2 m2 k2] 31)) _ _ _ _ hn1
  have H1 := Lib.hid (And.intro hbb (And.intro q1 hn1))
  have HSZ := Lib.hid hb9
  clear hpost hb hbb q1 hn1 HC HA hb9
  go_upto_if 27 with fail
  go_cut [9] (fun s9 wx => Hid (Below W0.heap.size W0 wx ∧ ∃ a b c, wx.heap[wb.heap.size]? = some (.cells #[a, b, c] 31)))
  case first =>
    cases rn with
    | none =>
      have h9 : 91 = er1 := HEN.out
      subst h9
      go_wp2_with fail
      go_meet
      exact Lib.hid ⟨H1.out.1, _, _, _, H1.out.2.1⟩
    | some m =>
      have h9 : 0 = er1 := HEN.out
      subst h9
      have hg := get_any _ m _ _ _ _ H1.out.2.2 (HTT.out _ H1.out.1)
      rw [HGN.out m rfl] at hg
      have HC := Lib.hid hg
      obtain ⟨u0, u1, u2⟩ := box_nd (Below.refl _ _) H1.out.2.1
      clear hg
      go_wp2_with fail
      refine HC.out.mono ?_
      rintro e wc ⟨hbc0, A3, c3, he, hc3, hm3, hL3⟩
      rw [HLEN.out] at he hc3
      subst he
      have hbc := below_then H1.out.1 hbc0 (Nat.le_refl _)
      have q2 := (hbc0.block _ (Array.getElem?_eq_some_iff.1 H1.out.2.1).1).trans H1.out.2.1
      have HC2 := Lib.hid (HAL.out wc hbc A3 c3 hL3 hc3 hm3)
      have H2 := Lib.hid (And.intro hbc q2)
      clear HC u0 u1 u2 hL3 hc3 hm3 hbc hbc0 q2
      go_wp2_with fail
      refine HC2.out.mono ?_
      rintro e wd ⟨rfl, hbd⟩
      have H3 := Lib.hid (And.intro (below_then H2.out.1 hbd (Nat.le_refl _)) ((hbd.block _ (Array.getElem?_eq_some_iff.1 H2.out.2).1).trans H2.out.2))
      clear hbd HC2 H2
      go_wp2_with fail
      go_meet
      exact Lib.hid ⟨H3.out.1, _, _, _, H3.out.2⟩
  case rest =>
    have H4 := hcut
    clear hcut H1
    obtain ⟨b0, b1⟩ := HBX.out _ H4.out.1
    have HC := Lib.hid (HPP.out _ H4.out.1)
    clear HPP
    go_wp2_with fail
    refine HC.out.mono ?_
    rintro e wg hpost
    obtain ⟨hb, t4, A4, l4, c4, K4, m4, k4, er3, rfl, her3, hn3⟩ := hpost.anyS
    rw [HEP.out] at her3
    subst her3
    have hbg := below_then H4.out.1 hb (Nat.le_refl _)
    obtain ⟨v0, v1, v2, hq⟩ := H4.out.2
    have hlt := (Array.getElem?_eq_some_iff.1 hq).1
    have hq := (hb.block _ hlt).trans hq
    have f0 := Lib.frozen_of_heap hq 0
    have f1 := Lib.frozen_of_heap hq 1
    have f2 := Lib.frozen_of_heap hq 2
    have g0 := (Lib.cell_of_heap hq 0).trans rfl
    have g1 := (Lib.cell_of_heap hq 1).trans rfl
    have g2 := (Lib.cell_of_heap hq 2).trans rfl
    obtain ⟨r0, r1, r2, hB⟩ := res3 (y0 := .int .u8 t4) (y1 := .slice A4 l4 c4) (y2 := .slice K4 m4 k4) HSZ.out hbg hq
    have hn3 := res3_nd (b := wb.heap.size) (y0 := .int .u8 t4) (y1 := .slice A4 l4 c4) (y2 := .slice K4 m4 k4) (fun g hg => by omega) hn3
    have H5 := Lib.hid (And.intro hB hn3)
    have HR := Lib.hid (And.intro r0 (And.intro r1 r2))
    clear hpost hb hbg hq hlt b0 b1 r0 r1 r2 hB hn3 HC H4
    go_upto_if 47 with fail
    clear f0 f1 f2 g0 g1 g2
    go_cut [9] (fun s9 wx => Hid (Below W0.heap.size W0 wx))
    case first =>
      cases rp with
      | none =>
        have h9 : 91 = er3 := HEP.out
        subst h9
        go_wp2_with fail
        go_meet
        exact Lib.hid H5.out.1
      | some m =>
        have h9 : 0 = er3 := HEP.out
        subst h9
        have hg := getPrinc_any _ m _ _ _ _ H5.out.2 (HTT.out _ H5.out.1)
        rw [HGP.out m rfl] at hg
        have HC := Lib.hid hg
        obtain ⟨u0, u1, u2⟩ := HR.out
        clear hg
        go_wp2_with fail
        refine HC.out.mono ?_
        rintro e wh ⟨hbh, s5, A5, l5, c5, rfl, hp5⟩
        have hb5 := below_then (below_then H5.out.1 hbh (Nat.le_refl _)) (below_new wh (.cells #[.string s5, .slice A5 l5 c5] 26)) (Nat.le_refl _)
        have q5 := heap_new_ wh (.cells #[.string s5, .slice A5 l5 c5] 26)
        have x0 := (Lib.cell_of_heap q5 0).trans rfl
        have x1 := (Lib.cell_of_heap q5 1).trans rfl
        obtain ⟨b0, b1⟩ := HBX.out _ hb5
        have HC2 := Lib.hid (HALP.out _ hb5 _ _ (hp5.below (below_new wh (.cells #[.string s5, .slice A5 l5 c5] 26))))
        have H6 := Lib.hid hb5
        clear HC u0 u1 u2 hp5 hbh hb5 q5 HR H5
        go_wp2_with fail
        refine HC2.out.mono ?_
        rintro e wi ⟨rfl, hbi⟩
        have H7 := Lib.hid (below_then H6.out hbi (Nat.le_refl _))
        clear hbi HC2 H6 x0 x1 b0 b1
        go_wp2_with fail
        go_meet
        exact H7
    case rest =>
      have H6 := hcut
      clear hcut H5 HR HSZ
      obtain ⟨ka0, ka1, ka2⟩ := HKX.out _ H6.out
      have HC := Lib.hid (HPAR.out _ H6.out)
      clear HPAR HALP HAL HGN HGP
      go_wp2_with fail
      refine HC.out.mono ?_
      rintro e wj ⟨rfl, hbj⟩
      have H7 := Lib.hid (below_then H6.out hbj (Nat.le_refl _))
      clear HC hbj H6 ka0 ka1 ka2
      by_cases hp : 5000 < P
      · go_wp2
        go_ret
        exact ⟨rfl, HBW.out _ H7.out⟩
      · obtain ⟨ka0, ka1, ka2⟩ := HKX.out _ H7.out
        have HC := Lib.hid (HGK.out _ H7.out)
        clear HGK
        go_wp2_with fail
        refine HC.out.mono ?_
        rintro e wk hpost
        obtain ⟨hbk, A6, l6, c6, er6, rfl, her6, hl6, hc6, hm6, hL6⟩ := hpost.any
        rw [HFN.out] at her6
        subst her6
        have H8 := Lib.hid (below_then H7.out hbk (Nat.le_refl _))
        have HL6 := Lib.hid (And.intro hl6 (And.intro hc6 (And.intro hm6 hL6)))
        clear HC hpost hbk hl6 hc6 hm6 hL6 H7 ka0 ka1 ka2 hp
        go_upto_if 71 with fail
        go_cut [9] (fun s9 wx => Hid (Below W0.heap.size W0 wx))
        case first =>
          cases gn with
          | none =>
            have h9 : 91 = er6 := HFN.out
            subst h9
            go_wp2_with fail
            go_meet
            exact H8
          | some x =>
            have h9 : 0 = er6 := HFN.out
            subst h9
            have hq := put_any _ A6 l6 c6 x _ HL6.out.1 HL6.out.2.2.2 HL6.out.2.1 HL6.out.2.2.1 (HTT.out _ H8.out)
            rw [HKN.out x rfl] at hq
            have HC := Lib.hid hq
            clear hq HL6
            go_wp2_with fail
            refine HC.out.mono ?_
            rintro e wl ⟨hbl, t7, A7, l7, c7, K7, m7, k7, rfl, hn7⟩
            have hb7 := below_then (below_then H8.out hbl (Nat.le_refl _)) (below_new wl (.cells #[.int .u8 t7, .slice A7 l7 c7, .slice K7 m7 k7] 31)) (Nat.le_refl _)
            have q7 := heap_new_ wl (.cells #[.int .u8 t7, .slice A7 l7 c7, .slice K7 m7 k7] 31)
            have hn7 := NdC.below (below_new wl (.cells #[.int .u8 t7, .slice A7 l7 c7, .slice K7 m7 k7] 31)) _ _ _ _ hn7
            obtain ⟨u0, u1, u2⟩ := box_nd (Below.refl _ _) q7
            obtain ⟨ka0, ka1, ka2⟩ := HKX.out _ hb7
            have HC2 := Lib.hid (same_self _ _ _ _ _ _ _ _ _ _ hn7 (HND.out _ hb7))
            have H9 := Lib.hid hb7
            clear HC q7 hn7 hb7 hbl H8
            go_wp2_with fail
            refine HC2.out.mono ?_
            rintro e wm ⟨rfl, hbm⟩
            have H10 := Lib.hid (below_then H9.out hbm (Nat.le_refl _))
            clear HC2 hbm H9 u0 u1 u2 ka0 ka1 ka2
            go_wp2_with fail
            go_meet
            exact H10
        case rest =>
          have H9 := hcut
          clear hcut H8 HL6
          obtain ⟨ka0, ka1, ka2⟩ := HKX.out _ H9.out
          have HC := Lib.hid (HGQ.out _ H9.out)
          clear HGQ
          go_wp2_with fail
          refine HC.out.mono ?_
          rintro e wn hpost
          obtain ⟨hbn, s8, A8, l8, c8, er8, rfl, her8, hp8⟩ := hpost.any
          rw [HFP.out] at her8
          subst her8
          have H10 := Lib.hid (below_then H9.out hbn (Nat.le_refl _))
          have HP8 := Lib.hid hp8
          clear HC hpost hbn hp8 H9 ka0 ka1 ka2
          cases gp with
          | none =>
            have h9 : 91 = er8 := HFP.out
            subst h9
            have hend := HBW.out _ (below_then H10.out (below_new wn (.cells #[.string s8, .slice A8 l8 c8] 26)) (Nat.le_refl _))
            have HE := Lib.hid hend
            clear hend H10 HP8
            go_wp2
            go_ret
            exact ⟨rfl, HE.out⟩
          | some x =>
            have h9 : 0 = er8 := HFP.out
            subst h9
            have hb9 := below_then H10.out (below_new wn (.cells #[.string s8, .slice A8 l8 c8] 26)) (Nat.le_refl _)
            have q9 := heap_new_ wn (.cells #[.string s8, .slice A8 l8 c8] 26)
            have x0 := (Lib.cell_of_heap q9 0).trans rfl
            have x1 := (Lib.cell_of_heap q9 1).trans rfl
            have hq := putPrinc_any _ x _ _ _ (HP8.out.below (below_new wn (.cells #[.string s8, .slice A8 l8 c8] 26))) (HTT.out _ hb9)
            rw [HKP.out x rfl] at hq
            have HC := Lib.hid hq
            have H11 := Lib.hid hb9
            clear hq hb9 q9 HP8 H10
            go_wp2_with fail
            refine HC.out.mono ?_
            rintro e wo ⟨hbo, t7, A7, l7, c7, K7, m7, k7, rfl, hn7⟩
            have hb7 := below_then (below_then H11.out hbo (Nat.le_refl _)) (below_new wo (.cells #[.int .u8 t7, .slice A7 l7 c7, .slice K7 m7 k7] 31)) (Nat.le_refl _)
            have q7 := heap_new_ wo (.cells #[.int .u8 t7, .slice A7 l7 c7, .slice K7 m7 k7] 31)
            have hn7 := NdC.below (below_new wo (.cells #[.int .u8 t7, .slice A7 l7 c7, .slice K7 m7 k7] 31)) _ _ _ _ hn7
            obtain ⟨u0, u1, u2⟩ := box_nd (Below.refl _ _) q7
            obtain ⟨ka0, ka1, ka2⟩ := HKX.out _ hb7
            have HC2 := Lib.hid (same_self _ _ _ _ _ _ _ _ _ _ hn7 (HND.out _ hb7))
            have H12 := Lib.hid hb7
            clear HC q7 hn7 hb7 hbo H11 x0 x1
            go_wp2_with fail
            refine HC2.out.mono ?_
            rintro e wp_ ⟨rfl, hbp⟩
            have H13 := Lib.hid (HBW.out _ (below_then H12.out hbp (Nat.le_refl _)))
            clear HC2 hbp H12 u0 u1 u2 ka0 ka1 ka2
            go_wp2
            go_ret
            exact ⟨rfl, H13.out⟩

theorem reads (os : Os) {H : Type} (enc : TypeId × Value → H) : ∃ places, DataW.whole enc Tryd.prog ((txc.laidWorld os).forCall (fun _ _ => 0) ⟨#[], #[.slice none 0 0, .agg #[.string ⟨#[]⟩, .slice none 0 0], .agg #[.int .u8 0, .slice none 0 0, .slice none 0 0]], []⟩).memory Tryd.f5.params.toList Rows.namesBackSpec.vars false (#[.slice none 0 0, .agg #[.string ⟨#[]⟩, .slice none 0 0], .agg #[.int .u8 0, .slice none 0 0, .slice none 0 0]] : Array Value).toList 8 = some ([.nil, .agg [.lit (.string []), .nil], .agg [.lit (.int .u8 0), .nil, .nil]], [], places) :=
  ⟨[], by kernel_rfl⟩
set_option maxRecDepth 100000 in
theorem lifted (os : Os) (started : os.Started) (H : Type) (enc : TypeId × Value → H) (F : Stop.Interp) :
    ReturnsInHanded {} Tryd.checked os 5 .any ((OpenSpec.ofChange Rows.namesBackSpec).preRow enc Tryd.prog Tryd.f5 Rows.namesBackRow.domain false Rows.namesBackRow.laid) (((OpenSpec.ofChange Rows.namesBackSpec).at F).post enc Tryd.prog Tryd.f5 false true false false) := by
  obtain ⟨places, hx⟩ := reads os enc
  refine returnsInHanded_of_row (C := Tryd.checked) (s := (OpenSpec.ofChange Rows.namesBackSpec)) own started (by kernel_rfl) Tryd.func5
    (witness_row_at (enc := enc) (C := Tryd.checked) false (txc.laidWorld os) #[.slice none 0 0, .agg #[.string ⟨#[]⟩, .slice none 0 0], .agg #[.int .u8 0, .slice none 0 0, .slice none 0 0]] rfl (by kernel_rfl) (by kernel_rfl) (by kernel_rfl)
      (OpenSpec.preRow_of_cond 8 hx (by kernel_rfl) (fun k hk => by cases hk) (by kernel_rfl) (txc.laid_met os _))) ?_
  intro W base args ds gs before hval0 hW hcnd hcond hsz0 hL _ _
  have hval : ∀ (j : Nat) t v, Tryd.f5.params[j]? = some t → args[j]? = some v → Value.okWide Tryd.prog W .any base t v := hval0
  have hW' := hW
  obtain ⟨p, q, hA0, hV, rfl, hfz, hnd⟩ := hW
  have hA : DataW.TrodAll enc Tryd.prog W 0 (fun _ => true) true Tryd.f5.params.toList args.toList ds p := hA0
  have hsz : (DataW.weightsEach Tryd.prog (Tryd.f5.params.toList ++ (OpenSpec.ofChange Rows.namesBackSpec).bare.plain.varTypes Tryd.prog) (ds ++ gs)).all (· ≤ reachBytes) = true := hsz0
  rw [Tryd.params5] at hA hval hsz
  obtain ⟨v0, vs0, d0, ds0, p0, q0, hargs, rfl, rfl, h0, r_0⟩ := trodAll_cons hA
  obtain ⟨v1, vs1, d1, ds1, p1, q1, rfl, rfl, rfl, h1, r_1⟩ := trodAll_cons r_0
  obtain ⟨v2, vs2, d2, ds2, p2, q2, rfl, rfl, rfl, h2, r_2⟩ := trodAll_cons r_1
  obtain ⟨rfl, rfl, rfl⟩ := trodAll_nil r_2
  obtain rfl : args = #[v0, v1, v2] := by cases args; simp_all
  obtain ⟨rfl, rfl⟩ := trodVars_none hV
  obtain ⟨a0, len0, cap0, rfl⟩ := okWide_slice Tryd.underlying23 (hval 0 23 v0 rfl rfl)
  have k0 := h0
  have lt0 : ∀ x ∈ p0, x.block < W.heap.size := by obtain ⟨m, hm⟩ := k0; exact DataW.trod_lt m _ _ _ hm
  obtain ⟨x0, e0, s0, w0, l0, m0, z0⟩ := dtc.open_row (s := .agg [.row (.int .i64), .str]) (dtc.fit_row Tryd.underlying23 (dtc.fit_agg Tryd.underlying49 (by kernel_rfl) (dtc.fits_cons (by kernel_rfl) (dtc.fit_row Tryd.underlying47 (dtc.fit_int Tryd.underlying3 (by kernel_rfl)) (by kernel_rfl) (by kernel_rfl)) (dtc.fits_cons (by kernel_rfl) (dtc.fit_str Tryd.underlying9 (by kernel_rfl)) dtc.fits_nil))) (by kernel_rfl) (by kernel_rfl)) h0
  have y0 := z0 (dtc.each_fit hsz (j := 0) rfl rfl)
  have k1 := h1
  have lt1 : ∀ x ∈ p1, x.block < W.heap.size := by obtain ⟨m, hm⟩ := k1; exact DataW.trod_lt m _ _ _ hm
  obtain ⟨cl1, x1, rfl, cn1, s1, w1, z1⟩ := dtc.open_agg (l := [.str, .row (.str)]) Tryd.underlying26 (dtc.fit_agg Tryd.underlying26 (by kernel_rfl) (dtc.fits_cons (by kernel_rfl) (dtc.fit_str Tryd.underlying9 (by kernel_rfl)) (dtc.fits_cons (by kernel_rfl) (dtc.fit_row Tryd.underlying24 (dtc.fit_str Tryd.underlying9 (by kernel_rfl)) (by kernel_rfl) (by kernel_rfl)) dtc.fits_nil))) (hval 1 26 v1 rfl rfl) h1
  have y1 := z1 (dtc.each_fit hsz (j := 1) rfl rfl)
  have cn1 : cl1.length = 2 := by simpa [dtc.szs, dtc.Sh.sz] using cn1
  obtain ⟨c1_0, c1_1, ecl1⟩ := cells2 cn1
  subst ecl1
  have k2 := h2
  have lt2 : ∀ x ∈ p2, x.block < W.heap.size := by obtain ⟨m, hm⟩ := k2; exact DataW.trod_lt m _ _ _ hm
  obtain ⟨n2, c2_0, c2_1, c2_2, rfl, w2⟩ := ndc.open_nd ({ U := _, f0 := _, f1 := _, f2 := _, hT := Tryd.underlying31, hone := by kernel_rfl, hC := by kernel_rfl, e0 := Tryd.underlying5, e1 := Tryd.underlying28, eU := Tryd.underlying5, cU := by kernel_rfl, e2 := Tryd.underlying29 }) (hval 2 31 v2 rfl rfl) h2
  clear hA0 hval0
  have hT : txc.Tabs W := txc.tabs_of hL
  refine (walk a0 len0 cap0 x0 x1 c1_0 c1_1 n2 c2_0 c2_1 c2_2 W e0 s0 w0 l0 m0 y0 s1 w1 y1 w2 hT).mono fun e W' ⟨he, bel⟩ => ?_
  subst he
  exact ⟨_, rfl, _, _, _, [], _, [], hW', trodAll_mk1 (shut_bool Tryd.underlying4 _), (trodAll_cons_mk (Below.trod laidOut (by kernel_rfl) (of_decide_eq_true (by kernel_rfl)) k0 bel lt0) (trodAll_cons_mk (Below.trod laidOut (by kernel_rfl) (of_decide_eq_true (by kernel_rfl)) k1 bel lt1) (trodAll_cons_mk (Below.trod laidOut (by kernel_rfl) (of_decide_eq_true (by kernel_rfl)) k2 bel lt2) trodAll_mk0))), rfl, bel.frame _, fun h => by cases h⟩

theorem over : Rows.namesBackRow.holds Tryd.pinned (OpenSpec.ofChange Rows.namesBackSpec) :=
  OpenClaim.holds_of_cond 5 Tryd.f5 rfl rfl rfl rfl rfl rfl rfl ⟨rfl, rfl, rfl, rfl, rfl⟩ rfl rfl rfl rfl rfl (by kernel_rfl) Tryd.func5 (by kernel_rfl)
    (of_decide_eq_true (by kernel_rfl)) (by unfold Func.isWrapper; first | (rw [if_pos (by decide +kernel)]; kernel_rfl) | (rw [if_neg (by decide +kernel)]; exact ⟨rfl, rfl⟩))
    (fun os started H enc _ F => by rw [OpenClaim.pre_eq_preRow]; exact lifted os started H enc F)

theorem plain (f : FuncId) (fn : Func) (hf : Tryd.pinned.checked.prog.funcNamed "warder/warderlaw09.NamesBack" = some f) (hfn : Tryd.pinned.checked.prog.funcs[f]? = some fn) :
    true = Tryd.pinned.checked.prog.looks [] ∧ ∀ (j : Nat) t, fn.params[j]? = some t → Tryd.pinned.checked.prog.wantsStandIn t = false := by
  obtain rfl : f = 5 := Option.some.inj ((show Tryd.prog.funcNamed "warder/warderlaw09.NamesBack" = some 5 by kernel_rfl).symm.trans hf) |>.symm
  obtain rfl : fn = Tryd.f5 := (Option.some.inj (Tryd.func5.symm.trans hfn)).symm
  refine ⟨by kernel_rfl, fun j t ht => ?_⟩
  rw [Tryd.params5] at ht
  match j, ht with
    | 0, ht => obtain rfl : t = 23 := (Option.some.inj ht).symm; exact (show Tryd.prog.wantsStandIn 23 = false by kernel_rfl)
    | 1, ht => obtain rfl : t = 26 := (Option.some.inj ht).symm; exact (show Tryd.prog.wantsStandIn 26 = false by kernel_rfl)
    | 2, ht => obtain rfl : t = 31 := (Option.some.inj ht).symm; exact (show Tryd.prog.wantsStandIn 31 = false by kernel_rfl)
    | j + 3, ht => simp at ht

theorem proved : Rows.NamesBackCardSaid :=
  Claim7.holds_tied_plain_at .later [] _ _ _ _ over (fun _ h => by cases h) (by kernel_rfl) (fun _ h => by cases h) namesBack_row_tie rfl ⟨rfl, rfl⟩ (by kernel_rfl) rfl plain (by kernel_rfl)
#print axioms proved
end Go.Proofs.YthcancakkkjpaaaDoor.namesBack
