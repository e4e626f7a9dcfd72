/- The law DeriveSecrets of warderlaw08 answers true for every list of terms, handles and number, and leaves its arguments as they were; no condition. -/
import Derived.Test.YtlhogjigdmpokaaGreatDoorCards
import Derived.Test.YtlhogjigdmpokaaGreatDoorTie
import Derived.WalkKit
import Derived.ProofKit
import Derived.OpenShut
import Derived.ChangeOld
import Derived.Below
import Derived.SizedLaws
import Derived.Test.YtlhogjigdmpokaaGreatDoorTh
import Derived.Test.YtlhogjigdmpokaaGreatDoorVtTab
import Derived.Test.YtlhogjigdmpokaaGreatDoorDq
import Derived.Test.YtlhogjigdmpokaaGreatDoorGc
namespace Go.Proofs.YtlhogjigdmpokaaGreatDoor.deriveSecrets
open Go.ChangeShapes Go.WideShapes Go.ChangeAt Go.RowKit
set_option linter.unusedVariables false

theorem own : ownKnob Tryz.prog.godebug = none := by kernel_rfl
theorem laidOut : laidOutB Tryz.prog = true := by kernel_rfl

open Go.Proofs.YtlhogjigdmpokaaGreatDoor.tlvc Go.Proofs.YtlhogjigdmpokaaGreatDoor.tmc Go.Proofs.YtlhogjigdmpokaaGreatDoor.vtc

set_option maxRecDepth 100000 in
set_option maxHeartbeats 32000000 in
theorem walk (a0 : Option Addr) (len0 cap0 : Nat) (x0 : List tmc.Tm) (a1 : Option Addr) (len1 cap1 : Nat) (x1 : List Int) (a2 : Int) (w : World) (e0 : x0.length = len0) (w0 : tmc.Tms w a0 x0) (l0 : len0 ≤ cap0) (m0 : cap0 ≤ maxLen) (y0 : tmc.fitDs x0) (w1 : tlvc.Ins w a1 len1 x1) (l1 : len1 ≤ cap1) (r1 : cap1 ≤ 17592186043904) (w2 : (Lit.int .i64 a2).wf = true) (hT : txc.Tabs w) :
    Calls Tryz.prog 5 #[.slice a0 len0 cap0, .slice a1 len1 cap1, .int .i64 a2] w fun e w' => e = .returned (.bool true) ∧ Below w.heap.size w w' := by
  have ha2 : I64 a2 := bounds_i64 w2
  have hm1 : cap1 ≤ maxLen := by unfold maxLen; omega
  have hc19 : cap1 ≤ 9223372036854775807 := by omega
  have HT := Lib.hid (show txc.Tab w.heap.size w from hT)
  have HX1 := Lib.hid (And.intro w1 hm1)
  have HH := Lib.hid (head8_any w hT)
  have HBO := Lib.hid fun (W : World) (hb : Below w.heap.size w W) => both_any a0 len0 cap0 x0 W e0 (tms_below w0 hb) l0 m0 ((hT.on hb).mono hb.size)
  clear w0 w1 w2 y0 e0 m0 hT hm1
  go_enter Tryz.func5, Tryz.ntmps5
  go_wp2_with fail
  refine HH.out.mono ?_
  rintro e wa ⟨rfl, hba⟩
  have HBA := Lib.hid hba
  have HB2 := Lib.hid (HBO.out wa hba)
  clear hba HBO HH
  go_wp2_with fail
  refine HB2.out.mono ?_
  rintro e wb (⟨rfl, hbb⟩ | ⟨vb, mb, ob, rb, od, L, rfl, htw, hsz⟩)
  · have HE := Lib.hid (blw HBA.out hbb)
    clear hbb
    go_wp2
    go_ret
    exact ⟨rfl, HE.out⟩
  · have hta : txc.Tab wa.heap.size wa := (HT.out.on HBA.out).mono HBA.out.size
    have hv := htw.vat hsz
    have HTA := Lib.hid hta
    have HV := Lib.hid hv
    have HE := Lib.hid (blw HBA.out hv.bel)
    clear htw hsz hv hta HB2
    by_cases hl5 : len1 ≤ 500
    · have hlz : ¬ (500 : Int) < (len1 : Int) := by omega
      have HFD := Lib.hid (find_any _ _ vb mb ob L _ _ wb HV.out.vlt (atom_tm (fun _ => True) wb a2 ha2) ((HTA.out.on HV.out.bel).mono HV.out.bel.size) (atom_size a2))
      go_wp2_with fail
      refine HFD.out.mono ?_
      rintro e wc ⟨rfl, hbc⟩
      have HBC := Lib.hid hbc
      clear hbc HFD
      rcases hf : findV (.mk 1 a2 [] []) L with _ | x
      · obtain ⟨hn1, hn2⟩ := numI_not hf
        have HX := Lib.hid (blw HE.out HBC.out)
        rw [hn1, show (none : Option Nat).isSome = false from rfl]
        clear hn1 hn2 hf
        go_wp2_with fail
        go_ret
        exact ⟨rfl, HX.out⟩
      · obtain ⟨hn1, hn2⟩ := numI_yes hf
        rw [hn1, show (some x).isSome = true from rfl]
        have hxl := findV_lt hf
        have hxg : L[x]? = some (.mk 1 a2 [] []) := (findV_some hf).1
        have HXF := Lib.hid (And.intro hf (And.intro hxl hxg))
        have hh := has_any a1 len1 cap1 x1 (x : Int) wc (HX1.out.1.below (blw HE.out HBC.out)) l1 HX1.out.2
        obtain ⟨bk, hbk⟩ : ∃ y, decide ((x : Int) ∈ x1) = y := ⟨_, rfl⟩
        rw [hbk] at hh
        have HHA := Lib.hid hh
        have HBK := Lib.hid hbk
        clear hn1 hn2 hf hxl hxg hh hbk
        go_wp2_with fail
        refine HHA.out.mono ?_
        rintro e wd ⟨rfl, hbd⟩
        have HBD := Lib.hid (blw HBC.out hbd)
        clear hbd HHA
        cases bk
        rotate_left
        · have HX := Lib.hid (blw HE.out HBD.out)
          go_wp2_with fail
          go_ret
          exact ⟨rfl, HX.out⟩
        · obtain ⟨N, hN⟩ : ∃ N, L.length = N := ⟨_, rfl⟩
          have hL := HV.out.vlt.len
          rw [hN] at hL
          have HN := Lib.hid hN
          clear hN
          go_wp2_with fail
          go_loopg [13] (N + 1) (fun gk s13 wr => ∃ (i : Nat), s13 = .int .i64 (i : Nat) ∧ i ≤ N ∧ N - i < gk ∧ Hid (Below wb.heap.size wb wr ∧ ∀ j, j < i → ¬ Nm L j (x : Int)))
          case atStart => exact ⟨0, rfl, by omega, by omega, Lib.hid ⟨HBD.out, fun j hj => absurd hj (Nat.not_lt_zero _)⟩⟩
          case round =>
            obtain ⟨i, rfl, hi, hgk, HR⟩ := hrel
            have hln := (HV.out.below HR.out.1).len
            rw [HN.out] at hln
            have HLN := Lib.hid hln
            clear hln
            by_cases hlt : i < N
            · have hltz : (i : Int) < (N : Int) := by omega
              obtain ⟨gk', rfl⟩ : ∃ g', gk = g' + 1 := ⟨gk - 1, by omega⟩
              have HNX := Lib.hid (And.intro (show i + 1 ≤ N from hlt) (show N - (i + 1) < gk' by omega))
              have HTM := Lib.hid ((HV.out.below HR.out.1).term (i : Int))
              clear hgk hi
              go_wp2_with fail
              refine HLN.out.mono ?_
              rintro e w2 ⟨rfl, rfl⟩
              clear HLN
              go_wp2_with fail
              refine HTM.out.mono ?_
              rintro e w3 ⟨t, t0, t1, tA, tla, tca, tK, tlk, tck, rfl, hc3, ht3, hb3⟩
              have hit := ht3 (by rw [HN.out]; omega)
              rw [Int.toNat_natCast] at hit
              obtain ⟨t8, t9, d, ks⟩ := t
              obtain ⟨rfl, rfl, hby, hlc, hcm⟩ := term_parts hc3
              have hrt := HV.out.vlt.right _ (List.mem_of_getElem? hit)
              have hdl := (alone_data (right_mk.1 hrt).2.1).1
              have hkd := HV.out.vlt.tbl.kinds hit
              have hb4 := below_new w3 (.cells #[.int .i64 t0, .int .i64 t1, .slice tA tla tca, .slice tK tlk tck] 43)
              have hq4 := heap_new_ w3 (.cells #[.int .i64 t0, .int .i64 t1, .slice tA tla tca, .slice tK tlk tck] 43)
              obtain ⟨W4, hW4⟩ : ∃ x, w3.alloc (.cells #[.int .i64 t0, .int .i64 t1, .slice tA tla tca, .slice tK tlk tck] 43) = x := ⟨_, rfl⟩
              rw [hW4] at hb4 hq4
              have hla : tla ≤ 100000 := by have := hby.1; omega
              have HME := Lib.hid (rmentions_any tA tla tca d (i : Int) W4 (hby.below hb4) hlc hcm hla)
              have HT4 := Lib.hid (And.intro hit (And.intro hq4 (blw HR.out.1 (blw hb3 hb4))))
              have q0 : W4.cell? ⟨w3.heap.size, 0, none⟩ = some (.int .i64 t0) := (Lib.cell_of_heap hq4 _).trans rfl
              have q2 : W4.cell? ⟨w3.heap.size, 2, none⟩ = some (.slice tA tla tca) := (Lib.cell_of_heap hq4 _).trans rfl
              have q3 : W4.cell? ⟨w3.heap.size, 3, none⟩ = some (.slice tK tlk tck) := (Lib.cell_of_heap hq4 _).trans rfl
              have HC3 := Lib.hid (And.intro (TmC.below hb4 _ _ _ _ _ hc3) (And.intro hrt hkd))
              rw [show decide ((0 : Int) ≤ (i : Int) ∧ (i : Int) < (L.length : Int)) = true from decide_eq_true (by rw [HN.out]; omega)]
              clear hc3 ht3 hb3 hit hby hlc hcm hdl hb4 hq4 hla HTM hrt hkd
              go_upto_region 12 with fail
              (try rw [hW4])
              clear hW4
              by_cases ho : t0 = 4
              · subst ho
                go_wp2_with fail
                refine HME.out.mono ?_
                rintro e w5 ⟨A5, c5, rfl, i5, ⟨l5, m5⟩, b5⟩
                have hh := has_any A5 _ c5 _ (x : Int) w5 i5 l5 m5
                obtain ⟨bm, hbm⟩ : ∃ y, decide ((x : Int) ∈ mentionsF d (i : Int)) = y := ⟨_, rfl⟩
                rw [hbm] at hh
                have HHA := Lib.hid hh
                have H5 := Lib.hid (And.intro hbm (blw HT4.out.2.2 b5))
                clear i5 l5 m5 b5 hh hbm HME q0 q2
                go_wp2_with fail
                refine HHA.out.mono ?_
                rintro e w6 ⟨rfl, hb6⟩
                have H6 := Lib.hid (blw H5.out.2 hb6)
                clear hb6 HHA
                cases bm
                · go_wp2_with fail
                  go_roundg gk'
                  case measure => omega
                  case rel => exact ⟨i + 1, by go_num, HNX.out.1, HNX.out.2, Lib.hid ⟨H6.out, fun j hj hn => by
                    by_cases e : j = i
                    · subst e
                      obtain ⟨m, d', r, e1, hm⟩ := hn
                      rw [HT4.out.1] at e1
                      cases e1
                      exact of_decide_eq_false H5.out.1 hm
                    · exact HR.out.2 j (by omega) hn⟩⟩
                · have HX := Lib.hid (blw HE.out H6.out)
                  go_wp2_with fail
                  go_ret
                  exact ⟨rfl, HX.out⟩
              · have hob : (t0 == 4) = false := by rw [beq_eq_false_iff_ne]; exact ho
                have HO := Lib.hid ho
                clear ho
                go_wp2_with fail
                go_roundg gk'
                case measure => omega
                case rel => exact ⟨i + 1, by go_num, HNX.out.1, HNX.out.2, Lib.hid ⟨HT4.out.2.2, fun j hj hn => by
                  by_cases e : j = i
                  · subst e
                    obtain ⟨m, d', r, e1, _⟩ := hn
                    rw [HT4.out.1] at e1
                    cases e1
                    exact HO.out rfl
                  · exact HR.out.2 j (by omega) hn⟩⟩
            · obtain rfl : N = i := by omega
              have hltz : ¬ (N : Int) < (N : Int) := by omega
              have HNO : Hid (∀ j, j < L.length → ¬ Nm L j (x : Int)) := Lib.hid fun j hj => HR.out.2 j (by rw [HN.out] at hj; exact hj)
              have HBE := Lib.hid HR.out.1
              clear hgk hi
              go_wp2_with fail
              refine HLN.out.mono ?_
              rintro e we ⟨rfl, rfl⟩
              have hC := (HV.out.below HBE.out).closure HTA.out a1 len1 cap1 x1 (HX1.out.1.below (blw HE.out HBE.out)) l1 HX1.out.2
              have hsx := secret_x HXF.out.2.2 (of_decide_eq_false HBK.out) HNO.out
              have HSX := Lib.hid hsx
              have HC := Lib.hid hC
              clear hC hsx HLN
              go_wp2_with fail
              refine HC.out.mono ?_
              rintro e wf ⟨A6, c6, rfl, i6, ⟨l6, m6⟩, b6, _⟩
              have hh := has_any A6 _ c6 _ (x : Int) wf i6 l6 m6
              rw [HSX.out] at hh
              have HHA := Lib.hid hh
              have H6 := Lib.hid (And.intro i6 (And.intro l6 (And.intro m6 (blw HBE.out b6))))
              clear i6 l6 m6 b6 hh HC
              go_wp2_with fail
              refine HHA.out.mono ?_
              rintro e wg ⟨rfl, hbg⟩
              have H7 := Lib.hid (And.intro (H6.out.1.below hbg) (blw H6.out.2.2.2 hbg))
              clear hbg HHA
              go_wp2_with fail
              go_loopg [17] (N + 1) (fun gk s17 wr => ∃ (i : Nat), s17 = .int .i64 (i : Nat) ∧ i ≤ N ∧ N - i < gk ∧ Hid (Below wb.heap.size wb wr ∧ Below wg.heap.size wg wr))
              case atStart => exact ⟨0, rfl, by omega, by omega, Lib.hid ⟨H7.out.2, Below.refl _ _⟩⟩
              case round =>
                obtain ⟨i, rfl, hi, hgk, HR⟩ := hrel
                have hln := (HV.out.below HR.out.1).len
                rw [HN.out] at hln
                have HLN := Lib.hid hln
                clear hln
                by_cases hlt : i < N
                · have hltz : (i : Int) < (N : Int) := by omega
                  obtain ⟨gk', rfl⟩ : ∃ g', gk = g' + 1 := ⟨gk - 1, by omega⟩
                  have HNX := Lib.hid (And.intro (show i + 1 ≤ N from hlt) (show N - (i + 1) < gk' by omega))
                  have HTM := Lib.hid ((HV.out.below HR.out.1).term (i : Int))
                  clear hgk hi
                  go_wp2_with fail
                  refine HLN.out.mono ?_
                  rintro e w2 ⟨rfl, rfl⟩
                  clear HLN
                  go_wp2_with fail
                  refine HTM.out.mono ?_
                  rintro e w3 ⟨t, t0, t1, tA, tla, tca, tK, tlk, tck, rfl, hc3, ht3, hb3⟩
                  have hit := ht3 (by rw [HN.out]; omega)
                  rw [Int.toNat_natCast] at hit
                  obtain ⟨t8, t9, d, ks⟩ := t
                  obtain ⟨rfl, rfl, hby, hlc, hcm⟩ := term_parts hc3
                  have hrt := HV.out.vlt.right _ (List.mem_of_getElem? hit)
                  have hdl := (alone_data (right_mk.1 hrt).2.1).1
                  have hkd := HV.out.vlt.tbl.kinds hit
                  have hb4 := below_new w3 (.cells #[.int .i64 t0, .int .i64 t1, .slice tA tla tca, .slice tK tlk tck] 43)
                  have hq4 := heap_new_ w3 (.cells #[.int .i64 t0, .int .i64 t1, .slice tA tla tca, .slice tK tlk tck] 43)
                  obtain ⟨W4, hW4⟩ : ∃ x, w3.alloc (.cells #[.int .i64 t0, .int .i64 t1, .slice tA tla tca, .slice tK tlk tck] 43) = x := ⟨_, rfl⟩
                  rw [hW4] at hb4 hq4
                  have hla : tla ≤ 100000 := by have := hby.1; omega
                  have HME := Lib.hid (rmentions_any tA tla tca d (i : Int) W4 (hby.below hb4) hlc hcm hla)
                  have HT4 := Lib.hid (And.intro hit (And.intro hq4 (And.intro (blw HR.out.1 (blw hb3 hb4)) (blw HR.out.2 (blw hb3 hb4)))))
                  have q0 : W4.cell? ⟨w3.heap.size, 0, none⟩ = some (.int .i64 t0) := (Lib.cell_of_heap hq4 _).trans rfl
                  have q2 : W4.cell? ⟨w3.heap.size, 2, none⟩ = some (.slice tA tla tca) := (Lib.cell_of_heap hq4 _).trans rfl
                  have q3 : W4.cell? ⟨w3.heap.size, 3, none⟩ = some (.slice tK tlk tck) := (Lib.cell_of_heap hq4 _).trans rfl
                  have HC3 := Lib.hid (And.intro (TmC.below hb4 _ _ _ _ _ hc3) (And.intro hrt hkd))
                  rw [show decide ((0 : Int) ≤ (i : Int) ∧ (i : Int) < (L.length : Int)) = true from decide_eq_true (by rw [HN.out]; omega)]
                  clear hc3 ht3 hb3 hit hby hlc hcm hdl hb4 hq4 hla HTM hrt hkd
                  go_upto_region 21 with fail
                  (try rw [hW4])
                  clear hW4
                  by_cases hk6 : t0 = 6
                  · have hk := hk6
                    clear hk6
                    subst hk
                    have hl1 : ks.length = 1 := by have := HC3.out.2.2; omega
                    obtain ⟨ko, km, kd, kks, g, off, hks, hK, hlk, hck, hck9, z0, z1⟩ := kid_first HC3.out.1 hl1
                    subst hks
                    subst hK
                    subst hlk
                    by_cases hko : ko = 1
                    · subst hko
                      by_cases hkm : km = a2
                      · subst hkm
                        obtain ⟨rfl, rfl⟩ := atom_right (right_kids HC3.out.2.1 (k := .mk 1 km kd kks) (by simp))
                        have hb4w := blw HE.out HT4.out.2.2.1
                        have hh := has_any a1 len1 cap1 x1 (i : Int) W4 (HX1.out.1.below hb4w) l1 HX1.out.2
                        obtain ⟨b1, hb1⟩ : ∃ y, decide ((i : Int) ∈ x1) = y := ⟨_, rfl⟩
                        rw [hb1] at hh
                        have HHA := Lib.hid hh
                        have HB1 := Lib.hid hb1
                        clear hh hb1 hb4w hl1
                        go_wp2_with fail
                        refine HHA.out.mono ?_
                        rintro e w5 ⟨rfl, hb5⟩
                        have HB5 := Lib.hid (And.intro (blw HT4.out.2.2.1 hb5) (blw HT4.out.2.2.2 hb5))
                        clear hb5 HHA q0 q2 q3 z0 z1
                        cases b1
                        · have HNA := Lib.hid ((HV.out.below HB5.out.1).named (i : Int))
                          go_wp2_with fail
                          refine HNA.out.mono ?_
                          rintro e w6 ⟨⟨b2, rfl, hb2⟩, hb6⟩
                          have HB6 := Lib.hid (And.intro (blw HB5.out.1 hb6) (blw HB5.out.2 hb6))
                          have HB2 := Lib.hid hb2
                          clear hb6 hb2 HNA
                          cases b2
                          · have hsn := secret_n HXF.out.2.2 HXF.out.1 HT4.out.1 (by omega) (of_decide_eq_false HBK.out) (of_decide_eq_false HB1.out) HNO.out (fun h => by have := HB2.out.2 h; cases this)
                            have hb76 : Below wg.heap.size wg w6 := HB6.out.2
                            have hh := has_any A6 _ c6 _ (i : Int) w6 (H7.out.1.below hb76) H6.out.2.1 H6.out.2.2.1
                            rw [hsn] at hh
                            have HHA := Lib.hid hh
                            clear hsn hh hb76
                            go_wp2_with fail
                            refine HHA.out.mono ?_
                            rintro e w8 ⟨rfl, hb8⟩
                            have HF := Lib.hid (And.intro (blw HB6.out.1 hb8) (blw HB6.out.2 hb8))
                            clear hb8 HHA
                            go_wp2_with fail
                            go_roundg gk'
                            case measure => omega
                            case rel => exact ⟨i + 1, by go_num, HNX.out.1, HNX.out.2, HF⟩
                          · go_wp2_with fail
                            go_roundg gk'
                            case measure => omega
                            case rel => exact ⟨i + 1, by go_num, HNX.out.1, HNX.out.2, HB6⟩
                        · go_wp2_with fail
                          go_roundg gk'
                          case measure => omega
                          case rel => exact ⟨i + 1, by go_num, HNX.out.1, HNX.out.2, HB5⟩
                      · have hkb : (km == a2) = false := by rw [beq_eq_false_iff_ne]; exact hkm
                        have HF := Lib.hid HT4.out.2.2
                        clear hkm hl1
                        go_wp2_with fail
                        go_roundg gk'
                        case measure => omega
                        case rel => exact ⟨i + 1, by go_num, HNX.out.1, HNX.out.2, HF⟩
                    · have hkb : (ko == 1) = false := by rw [beq_eq_false_iff_ne]; exact hko
                      have HF := Lib.hid HT4.out.2.2
                      clear hko hl1
                      go_wp2_with fail
                      go_roundg gk'
                      case measure => omega
                      case rel => exact ⟨i + 1, by go_num, HNX.out.1, HNX.out.2, HF⟩
                  · by_cases hk2 : t0 = 2
                    · have hk := hk2
                      clear hk2 hk6
                      subst hk
                      have hl1 : ks.length = 1 := by have := HC3.out.2.2; omega
                      obtain ⟨ko, km, kd, kks, g, off, hks, hK, hlk, hck, hck9, z0, z1⟩ := kid_first HC3.out.1 hl1
                      subst hks
                      subst hK
                      subst hlk
                      by_cases hko : ko = 1
                      · subst hko
                        by_cases hkm : km = a2
                        · subst hkm
                          obtain ⟨rfl, rfl⟩ := atom_right (right_kids HC3.out.2.1 (k := .mk 1 km kd kks) (by simp))
                          have hb4w := blw HE.out HT4.out.2.2.1
                          have hh := has_any a1 len1 cap1 x1 (i : Int) W4 (HX1.out.1.below hb4w) l1 HX1.out.2
                          obtain ⟨b1, hb1⟩ : ∃ y, decide ((i : Int) ∈ x1) = y := ⟨_, rfl⟩
                          rw [hb1] at hh
                          have HHA := Lib.hid hh
                          have HB1 := Lib.hid hb1
                          clear hh hb1 hb4w hl1
                          go_wp2_with fail
                          refine HHA.out.mono ?_
                          rintro e w5 ⟨rfl, hb5⟩
                          have HB5 := Lib.hid (And.intro (blw HT4.out.2.2.1 hb5) (blw HT4.out.2.2.2 hb5))
                          clear hb5 HHA q0 q2 q3 z0 z1
                          cases b1
                          · have HNA := Lib.hid ((HV.out.below HB5.out.1).named (i : Int))
                            go_wp2_with fail
                            refine HNA.out.mono ?_
                            rintro e w6 ⟨⟨b2, rfl, hb2⟩, hb6⟩
                            have HB6 := Lib.hid (And.intro (blw HB5.out.1 hb6) (blw HB5.out.2 hb6))
                            have HB2 := Lib.hid hb2
                            clear hb6 hb2 HNA
                            cases b2
                            · have hsn := secret_n HXF.out.2.2 HXF.out.1 HT4.out.1 (by omega) (of_decide_eq_false HBK.out) (of_decide_eq_false HB1.out) HNO.out (fun h => by have := HB2.out.2 h; cases this)
                              have hb76 : Below wg.heap.size wg w6 := HB6.out.2
                              have hh := has_any A6 _ c6 _ (i : Int) w6 (H7.out.1.below hb76) H6.out.2.1 H6.out.2.2.1
                              rw [hsn] at hh
                              have HHA := Lib.hid hh
                              clear hsn hh hb76
                              go_wp2_with fail
                              refine HHA.out.mono ?_
                              rintro e w8 ⟨rfl, hb8⟩
                              have HF := Lib.hid (And.intro (blw HB6.out.1 hb8) (blw HB6.out.2 hb8))
                              clear hb8 HHA
                              go_wp2_with fail
                              go_roundg gk'
                              case measure => omega
                              case rel => exact ⟨i + 1, by go_num, HNX.out.1, HNX.out.2, HF⟩
                            · go_wp2_with fail
                              go_roundg gk'
                              case measure => omega
                              case rel => exact ⟨i + 1, by go_num, HNX.out.1, HNX.out.2, HB6⟩
                          · go_wp2_with fail
                            go_roundg gk'
                            case measure => omega
                            case rel => exact ⟨i + 1, by go_num, HNX.out.1, HNX.out.2, HB5⟩
                        · have hkb : (km == a2) = false := by rw [beq_eq_false_iff_ne]; exact hkm
                          have HF := Lib.hid HT4.out.2.2
                          clear hkm hl1
                          go_wp2_with fail
                          go_roundg gk'
                          case measure => omega
                          case rel => exact ⟨i + 1, by go_num, HNX.out.1, HNX.out.2, HF⟩
                      · have hkb : (ko == 1) = false := by rw [beq_eq_false_iff_ne]; exact hko
                        have HF := Lib.hid HT4.out.2.2
                        clear hko hl1
                        go_wp2_with fail
                        go_roundg gk'
                        case measure => omega
                        case rel => exact ⟨i + 1, by go_num, HNX.out.1, HNX.out.2, HF⟩
                    · by_cases hk3 : t0 = 3
                      · have hk := hk3
                        clear hk2 hk6 hk3
                        subst hk
                        have hl1 : ks.length = 1 := by have := HC3.out.2.2; omega
                        obtain ⟨ko, km, kd, kks, g, off, hks, hK, hlk, hck, hck9, z0, z1⟩ := kid_first HC3.out.1 hl1
                        subst hks
                        subst hK
                        subst hlk
                        by_cases hko : ko = 1
                        · subst hko
                          by_cases hkm : km = a2
                          · subst hkm
                            obtain ⟨rfl, rfl⟩ := atom_right (right_kids HC3.out.2.1 (k := .mk 1 km kd kks) (by simp))
                            have hb4w := blw HE.out HT4.out.2.2.1
                            have hh := has_any a1 len1 cap1 x1 (i : Int) W4 (HX1.out.1.below hb4w) l1 HX1.out.2
                            obtain ⟨b1, hb1⟩ : ∃ y, decide ((i : Int) ∈ x1) = y := ⟨_, rfl⟩
                            rw [hb1] at hh
                            have HHA := Lib.hid hh
                            have HB1 := Lib.hid hb1
                            clear hh hb1 hb4w hl1
                            go_wp2_with fail
                            refine HHA.out.mono ?_
                            rintro e w5 ⟨rfl, hb5⟩
                            have HB5 := Lib.hid (And.intro (blw HT4.out.2.2.1 hb5) (blw HT4.out.2.2.2 hb5))
                            clear hb5 HHA q0 q2 q3 z0 z1
                            cases b1
                            · have HNA := Lib.hid ((HV.out.below HB5.out.1).named (i : Int))
                              go_wp2_with fail
                              refine HNA.out.mono ?_
                              rintro e w6 ⟨⟨b2, rfl, hb2⟩, hb6⟩
                              have HB6 := Lib.hid (And.intro (blw HB5.out.1 hb6) (blw HB5.out.2 hb6))
                              have HB2 := Lib.hid hb2
                              clear hb6 hb2 HNA
                              cases b2
                              · have hsn := secret_n HXF.out.2.2 HXF.out.1 HT4.out.1 (by omega) (of_decide_eq_false HBK.out) (of_decide_eq_false HB1.out) HNO.out (fun h => by have := HB2.out.2 h; cases this)
                                have hb76 : Below wg.heap.size wg w6 := HB6.out.2
                                have hh := has_any A6 _ c6 _ (i : Int) w6 (H7.out.1.below hb76) H6.out.2.1 H6.out.2.2.1
                                rw [hsn] at hh
                                have HHA := Lib.hid hh
                                clear hsn hh hb76
                                go_wp2_with fail
                                refine HHA.out.mono ?_
                                rintro e w8 ⟨rfl, hb8⟩
                                have HF := Lib.hid (And.intro (blw HB6.out.1 hb8) (blw HB6.out.2 hb8))
                                clear hb8 HHA
                                go_wp2_with fail
                                go_roundg gk'
                                case measure => omega
                                case rel => exact ⟨i + 1, by go_num, HNX.out.1, HNX.out.2, HF⟩
                              · go_wp2_with fail
                                go_roundg gk'
                                case measure => omega
                                case rel => exact ⟨i + 1, by go_num, HNX.out.1, HNX.out.2, HB6⟩
                            · go_wp2_with fail
                              go_roundg gk'
                              case measure => omega
                              case rel => exact ⟨i + 1, by go_num, HNX.out.1, HNX.out.2, HB5⟩
                          · have hkb : (km == a2) = false := by rw [beq_eq_false_iff_ne]; exact hkm
                            have HF := Lib.hid HT4.out.2.2
                            clear hkm hl1
                            go_wp2_with fail
                            go_roundg gk'
                            case measure => omega
                            case rel => exact ⟨i + 1, by go_num, HNX.out.1, HNX.out.2, HF⟩
                        · have hkb : (ko == 1) = false := by rw [beq_eq_false_iff_ne]; exact hko
                          have HF := Lib.hid HT4.out.2.2
                          clear hko hl1
                          go_wp2_with fail
                          go_roundg gk'
                          case measure => omega
                          case rel => exact ⟨i + 1, by go_num, HNX.out.1, HNX.out.2, HF⟩
                      · have hb2 : (t0 == 2) = false := by rw [beq_eq_false_iff_ne]; exact hk2
                        have hb3 : (t0 == 3) = false := by rw [beq_eq_false_iff_ne]; exact hk3
                        have hb6 : (t0 == 6) = false := by rw [beq_eq_false_iff_ne]; exact hk6
                        have HF := Lib.hid HT4.out.2.2
                        clear hk2 hk3 hk6
                        go_wp2_with fail
                        go_roundg gk'
                        case measure => omega
                        case rel => exact ⟨i + 1, by go_num, HNX.out.1, HNX.out.2, HF⟩
                · obtain rfl : N = i := by omega
                  have hltz : ¬ (N : Int) < (N : Int) := by omega
                  have HX := Lib.hid (blw HE.out HR.out.1)
                  clear hgk hi
                  go_wp2_with fail
                  refine HLN.out.mono ?_
                  rintro e w2 ⟨rfl, rfl⟩
                  go_wp2_with fail
                  go_ret
                  exact ⟨rfl, HX.out⟩
    · have hlz : (500 : Int) < (len1 : Int) := by omega
      go_wp2
      go_ret
      exact ⟨rfl, HE.out⟩

theorem reads (os : Os) {H : Type} (enc : TypeId × Value → H) : ∃ places, DataW.whole enc Tryz.prog ((txc.laidWorld os).forCall (fun _ _ => 0) ⟨#[], #[.slice none 0 0, .slice none 0 0, .int .i64 0], []⟩).memory Tryz.f5.params.toList Rows.deriveSecretsSpec.vars false (#[.slice none 0 0, .slice none 0 0, .int .i64 0] : Array Value).toList 8 = some ([.nil, .nil, .lit (.int .i64 0)], [], places) :=
  ⟨[], by kernel_rfl⟩
set_option maxRecDepth 100000 in
theorem lifted (os : Os) (started : os.Started) (H : Type) (enc : TypeId × Value → H) (F : Stop.Interp) :
    ReturnsInHanded {} Tryz.checked os 5 .any ((OpenSpec.ofChange Rows.deriveSecretsSpec).preRow enc Tryz.prog Tryz.f5 Rows.deriveSecretsRow.domain false Rows.deriveSecretsRow.laid) (((OpenSpec.ofChange Rows.deriveSecretsSpec).at F).post enc Tryz.prog Tryz.f5 false true false false) := by
  obtain ⟨places, hx⟩ := reads os enc
  refine returnsInHanded_of_row (C := Tryz.checked) (s := (OpenSpec.ofChange Rows.deriveSecretsSpec)) own started (by kernel_rfl) Tryz.func5
    (witness_row_at (enc := enc) (C := Tryz.checked) false (txc.laidWorld os) #[.slice none 0 0, .slice none 0 0, .int .i64 0] rfl (by kernel_rfl) (by kernel_rfl) (by kernel_rfl)
      (OpenSpec.preRow_of_cond 8 hx (by kernel_rfl) (fun k hk => by cases hk) (by kernel_rfl) (txc.laid_met os _))) ?_
  intro W base args ds gs before hval0 hW hcnd hcond hsz0 hL _ _
  have hval : ∀ (j : Nat) t v, Tryz.f5.params[j]? = some t → args[j]? = some v → Value.okWide Tryz.prog W .any base t v := hval0
  have hW' := hW
  obtain ⟨p, q, hA0, hV, rfl, hfz, hnd⟩ := hW
  have hA : DataW.TrodAll enc Tryz.prog W 0 (fun _ => true) true Tryz.f5.params.toList args.toList ds p := hA0
  have hsz : (DataW.weightsEach Tryz.prog (Tryz.f5.params.toList ++ (OpenSpec.ofChange Rows.deriveSecretsSpec).bare.plain.varTypes Tryz.prog) (ds ++ gs)).all (· ≤ reachBytes) = true := hsz0
  rw [Tryz.params5] at hA hval hsz
  obtain ⟨v0, vs0, d0, ds0, p0, q0, hargs, rfl, rfl, h0, r_0⟩ := trodAll_cons hA
  obtain ⟨v1, vs1, d1, ds1, p1, q1, rfl, rfl, rfl, h1, r_1⟩ := trodAll_cons r_0
  obtain ⟨v2, vs2, d2, ds2, p2, q2, rfl, rfl, rfl, h2, r_2⟩ := trodAll_cons r_1
  obtain ⟨rfl, rfl, rfl⟩ := trodAll_nil r_2
  obtain rfl : args = #[v0, v1, v2] := by cases args; simp_all
  obtain ⟨rfl, rfl⟩ := trodVars_none hV
  obtain ⟨a0, len0, cap0, rfl⟩ := okWide_slice Tryz.underlying22 (hval 0 22 v0 rfl rfl)
  have k0 := h0
  have lt0 : ∀ x ∈ p0, x.block < W.heap.size := by obtain ⟨m, hm⟩ := k0; exact DataW.trod_lt m _ _ _ hm
  obtain ⟨x0, e0, w0, l0, m0, z0⟩ := tmc.open_tms ({ U := _, f0 := _, f1 := _, f2 := _, f3 := _, hT := Tryz.underlying43, hone := by kernel_rfl, hC := by kernel_rfl, e0 := Tryz.underlying41, e1 := Tryz.underlying2, e2 := Tryz.underlying24, eU := Tryz.underlying5, cU := by kernel_rfl, bU := by kernel_rfl, e3 := Tryz.underlying22 }) Tryz.underlying22 h0
  have y0 := z0 (tmc.each_fit hsz (j := 0) rfl rfl)
  obtain ⟨a1, len1, cap1, rfl⟩ := okWide_slice Tryz.underlying23 (hval 1 23 v1 rfl rfl)
  have k1 := h1
  have lt1 : ∀ x ∈ p1, x.block < W.heap.size := by obtain ⟨m, hm⟩ := k1; exact DataW.trod_lt m _ _ _ hm
  obtain ⟨x1, w1, l1, m1, s1⟩ := tlvc.open_ins Tryz.underlying23 Tryz.underlying3 (by kernel_rfl) h1
  have r1 := tlvc.spots_reach8 hsz s1 (j := 1) rfl rfl Tryz.underlying23 (of_decide_eq_true (by kernel_rfl))
  obtain ⟨a2, rfl, rfl, rfl, w2⟩ := open_int Tryz.underlying2 (hval 2 2 v2 rfl rfl) h2
  clear hA0 hval0
  have hT : txc.Tabs W := txc.tabs_of hL
  refine (walk a0 len0 cap0 x0 a1 len1 cap1 x1 a2 W e0 w0 l0 m0 y0 w1 l1 r1 w2 hT).mono fun e W' ⟨he, bel⟩ => ?_
  subst he
  exact ⟨_, rfl, _, _, _, [], _, [], hW', trodAll_mk1 (shut_bool Tryz.underlying4 _), (trodAll_cons_mk (Below.trod laidOut (by kernel_rfl) (of_decide_eq_true (by kernel_rfl)) k0 bel lt0) (trodAll_cons_mk (Below.trod laidOut (by kernel_rfl) (of_decide_eq_true (by kernel_rfl)) k1 bel lt1) (trodAll_cons_mk (shut_int Tryz.underlying2 w2) trodAll_mk0))), rfl, bel.frame _, fun h => by cases h⟩

theorem over : Rows.deriveSecretsRow.holds Tryz.pinned (OpenSpec.ofChange Rows.deriveSecretsSpec) :=
  OpenClaim.holds_of_cond 5 Tryz.f5 rfl rfl rfl rfl rfl rfl rfl ⟨rfl, rfl, rfl, rfl, rfl⟩ rfl rfl rfl rfl rfl (by kernel_rfl) Tryz.func5 (by kernel_rfl)
    (of_decide_eq_true (by kernel_rfl)) (by unfold Func.isWrapper; first | (rw [if_pos (by decide +kernel)]; kernel_rfl) | (rw [if_neg (by decide +kernel)]; exact ⟨rfl, rfl⟩))
    (fun os started H enc _ F => by rw [OpenClaim.pre_eq_preRow]; exact lifted os started H enc F)

theorem plain (f : FuncId) (fn : Func) (hf : Tryz.pinned.checked.prog.funcNamed "warder/warderlaw08.DeriveSecrets" = some f) (hfn : Tryz.pinned.checked.prog.funcs[f]? = some fn) :
    false = Tryz.pinned.checked.prog.looks [] ∧ ∀ (j : Nat) t, fn.params[j]? = some t → Tryz.pinned.checked.prog.wantsStandIn t = false := by
  obtain rfl : f = 5 := Option.some.inj ((show Tryz.prog.funcNamed "warder/warderlaw08.DeriveSecrets" = some 5 by kernel_rfl).symm.trans hf) |>.symm
  obtain rfl : fn = Tryz.f5 := (Option.some.inj (Tryz.func5.symm.trans hfn)).symm
  refine ⟨by kernel_rfl, fun j t ht => ?_⟩
  rw [Tryz.params5] at ht
  match j, ht with
    | 0, ht => obtain rfl : t = 22 := (Option.some.inj ht).symm; exact (show Tryz.prog.wantsStandIn 22 = false by kernel_rfl)
    | 1, ht => obtain rfl : t = 23 := (Option.some.inj ht).symm; exact (show Tryz.prog.wantsStandIn 23 = false by kernel_rfl)
    | 2, ht => obtain rfl : t = 2 := (Option.some.inj ht).symm; exact (show Tryz.prog.wantsStandIn 2 = false by kernel_rfl)
    | j + 3, ht => simp at ht

theorem proved : Rows.DeriveSecretsCardSaid :=
  Claim7.holds_tied_plain_at .later [] _ _ _ _ over (fun _ h => by cases h) (by kernel_rfl) (fun _ h => by cases h) deriveSecrets_row_tie rfl ⟨rfl, rfl⟩ (by kernel_rfl) rfl plain (by kernel_rfl)
#print axioms proved
end Go.Proofs.YtlhogjigdmpokaaGreatDoor.deriveSecrets
