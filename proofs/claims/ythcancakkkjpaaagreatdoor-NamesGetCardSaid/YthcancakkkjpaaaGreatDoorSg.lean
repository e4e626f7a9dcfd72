/- The document's Get. -/
import Derived.Test.YthcancakkkjpaaaGreatDoorSf
import Derived.Test.YthcancakkkjpaaaGreatDoorRy
namespace Go.Proofs.YthcancakkkjpaaaGreatDoor.nmc
open Go.RowKit Go.Proofs.YthcancakkkjpaaaGreatDoor.tlvc Go.Proofs.YthcancakkkjpaaaGreatDoor.tlvd Go.Proofs.YthcancakkkjpaaaGreatDoor.ndc Go.Proofs.YthcancakkkjpaaaGreatDoor.txc Go.Proofs.YthcancakkkjpaaaGreatDoor.txm Go.Proofs.YthcancakkkjpaaaGreatDoor.intc Go.Proofs.YthcancakkkjpaaaGreatDoor.intm
set_option linter.unusedVariables false
set_option linter.unusedSimpArgs false
theorem Tryz.infA2 : Inf Tryz.prog 29 43 atE.sz 40 := by
  obtain ⟨i0, hi, hz0, hz1, hz2⟩ := info_parts Tryz.infoAttr2
  exact ⟨Tryz.underlying29, i0, _, hi, hz0, hz1, hz2, rfl⟩
theorem rgN_no {n : Nd} (h : ¬ (kidsB n (-1) = true ∧ n.kids.all kOK = true ∧ rightN (n.kids.map toldA) = true)) : rgN n = none := by unfold rgN; rw [if_neg h]
theorem rgN_yes {n : Nd} (h : kidsB n (-1) = true) (h1 : n.kids.all kOK = true) (h2 : rightN (n.kids.map toldA) = true) : rgN n = some (n.kids.map toldA) := by unfold rgN; rw [if_pos ⟨h, h1, h2⟩]
theorem all_no {α : Type} {P : α → Bool} {l : List α} {i : Nat} (hi : i < l.length) (h : P l[i] = false) : ¬ l.all P = true := fun h2 => by
  have := List.all_eq_true.1 h2 _ (List.getElem_mem hi)
  rw [h] at this
  cases this
theorem all_take {α : Type} {P : α → Bool} {l : List α} {i : Nat} (hi : i < l.length) (h : (l.take i).all P = true) (h2 : P l[i] = true) : (l.take (i + 1)).all P = true := by
  rw [List.take_succ_eq_append_getElem hi, List.all_append, h, List.all_cons, h2]
  rfl
theorem kOK_1 {k : Nd} (h : kidsB k 2 = false) : kOK k = false := by unfold kOK; rw [h]; rfl
theorem kOK_2 {k : Nd} (h : oidOK (kidF k 0) = false) : kOK k = false := by unfold kOK; rw [h]; simp
theorem kOK_3 {k : Nd} (h : textOK 12 (kidF k 1) = false) : kOK k = false := by unfold kOK; rw [h]; simp
theorem kOK_4 {k : Nd} (h : kidsB k 2 = true) (h1 : oidOK (kidF k 0) = true) (h2 : textOK 12 (kidF k 1) = true) : kOK k = true := by unfold kOK; rw [h, h1, h2]; rfl
set_option maxRecDepth 100000 in
set_option maxHeartbeats 8000000 in
theorem rget_any (B : Nat → Prop) (n : Nd) (c0 c1 c2 : Value) (w : World) (hn : NdC B w n c0 c1 c2) (hks : n.kids.length ≤ 5000) (hT : Tabs w) :
    Calls Tryz.prog 7 #[.agg #[c0, c1, c2]] w (GetPost w (rgN n)) := by
  have HNO := Lib.hid (fun h => rgN_no (n := n) h)
  have HYES := Lib.hid (fun h h1 h2 => rgN_yes (n := n) h h1 h2)
  obtain ⟨R, hR⟩ : ∃ x, rgN n = x := ⟨_, rfl⟩
  rw [hR] at HNO HYES ⊢
  clear hR
  obtain ⟨t, b, ks⟩ := n
  have hkk : (Nd.mk t b ks).kids = ks := rfl
  rw [hkk] at HNO HYES hks
  obtain ⟨rfl, ht, ⟨A, la, ca, rfl, _, _, _, _⟩, K, ck, rfl, hK1, hK2, hK3⟩ := NdC.kidsL hn
  have h9 : ck ≤ 9223372036854775807 := by unfold maxLen at hK2; omega
  obtain ⟨k, hk⟩ : ∃ x, ks.length = x := ⟨_, rfl⟩
  have hlk : ∀ i, i ≤ k → ((ks.take i).map toldA).length = i := fun i hi => by rw [List.length_map, List.length_take]; omega
  have hkc : k ≤ ck := by rw [← hk]; exact hK1
  obtain ⟨W0, hW0⟩ : ∃ x, w.alloc (.cells #[.int .u8 t, .slice A la ca, .slice K ks.length ck] 25) = x := ⟨_, rfl⟩
  have hb0 : Below w.heap.size w W0 := by rw [← hW0]; exact below_new _ _
  have q0 : W0.heap[w.heap.size]? = some (.cells #[.int .u8 t, .slice A la ca, .slice K ks.length ck] 25) := by rw [← hW0]; exact heap_new_ _ _
  obtain ⟨x0, x1, x2⟩ := box3_ (Below.refl _ W0) q0
  have HK := Lib.hid (kids_any _ (.mk t b ks) (-1) (.inl rfl) _ _ _ W0 (NdC.below hb0 _ _ _ _ hn))
  obtain ⟨kb, hkb⟩ : ∃ x, kidsB (.mk t b ks) (-1) = x := ⟨_, rfl⟩
  rw [hkb] at HNO HYES HK
  rw [hk] at x2 HK hW0 hks ⊢
  have HL := Lib.hid (And.intro hk (And.intro hK3 (And.intro hb0 (And.intro hT (And.intro hlk hks)))))
  clear hk hK3 hb0 hT hlk q0 hK1 hK2 hn ht hkb hkk hks
  go_enter Tryz.func7, Tryz.ntmps7
  go_wp2_with fail
  refine HK.out.mono ?_
  clear HK
  cases kb with
  | false =>
    rw [if_neg (by decide)]
    rintro e w1 ⟨rfl, hb1⟩
    have hR := HNO.out (fun h => by cases h.1)
    have HF := Lib.hid (below_then HL.out.2.2.1 hb1 (Nat.le_refl _))
    subst hR
    clear hb1 HNO HYES HL x0 x1 x2 hW0
    go_wp2
    go_ret2
    exact ⟨HF.out, rfl⟩
  | true =>
    rw [if_pos rfl]
    rintro e w1 ⟨rfl, hb1⟩
    have HB1 := Lib.hid (below_then HL.out.2.2.1 hb1 (Nat.le_refl _))
    clear hb1 x0 x1 x2 hW0
    go_wp2_with fail
    go_loopg [6, 7] (k + 1) (fun gk s6 s7 wx => ∃ (i : Nat) (Av : Option Addr) (cv : Nat), s6 = .slice Av i cv ∧ s7 = .int .i64 i ∧ i ≤ k ∧ k - i < gk ∧ Hid (LInv atE 43 (fun g => w1.heap.size ≤ g) w1 (.slice Av i cv) ((ks.take i).map toldA) wx ∧ (ks.take i).all kOK = true))
    case atStart => exact ⟨0, none, 0, rfl, rfl, by omega, by omega, Lib.hid ⟨LInv.start, rfl⟩⟩
    case round =>
      obtain ⟨i, Av, cv, rfl, rfl, hi, hgk, HI⟩ := hrel
      by_cases hlt : i < k
      · have hltz : (i : Int) < (k : Int) := by omega
        obtain ⟨gk', rfl⟩ : ∃ g', gk = g' + 1 := ⟨gk - 1, by omega⟩
        have HN := Lib.hid (And.intro (show i + 1 ≤ k from hlt) (show k - (i + 1) < gk' by omega))
        have hix : i < ks.length := by rw [HL.out.1]; exact hlt
        have hbw := below_then HB1.out HI.out.1.bel (Nat.le_refl _)
        obtain ⟨g, off, t1, A1, l1, k1, K1, m1, n1, rfl, e0, e1, e2, hn1⟩ := nd_cells HL.out.2.1 hbw i hix
        have hlk := HL.out.2.2.2.2.1 i hi
        have hk5 := HL.out.2.2.2.2.2
        obtain ⟨kd, hkd⟩ : ∃ x, ks[i] = x := ⟨_, rfl⟩
        rw [hkd] at hn1
        have hnx : (ks.take i).map toldA ++ [toldA kd] = (ks.take (i + 1)).map toldA := by rw [List.take_succ_eq_append_getElem hix, List.map_append, List.map_cons, List.map_nil, hkd]
        have HALL := Lib.hid (fun (h : kOK kd = true) => all_take hix HI.out.2 (by rw [hkd]; exact h))
        have HNOT := Lib.hid (fun (h : kOK kd = false) => HNO.out (fun h2 => all_no hix (by rw [hkd]; exact h) h2.2.1))
        have HC := Lib.hid (kids_any _ kd 2 (.inr rfl) _ _ _ wr hn1)
        have HN1 := Lib.hid hn1
        have HX := Lib.hid (And.intro hnx (And.intro hlk (And.intro hk5 hbw)))
        obtain ⟨kb2, hkb2⟩ : ∃ x, kidsB kd 2 = x := ⟨_, rfl⟩
        rw [hkb2] at HC
        have HKB := Lib.hid hkb2
        clear hn1 hnx hlk hk5 hgk hbw hkd hkb2
        go_wp2_with fail
        refine HC.out.mono ?_
        clear HC e0 e1 e2
        cases kb2 with
        | false =>
          rw [if_neg (by decide)]
          rintro e w2 ⟨rfl, hb2⟩
          have hR := HNOT.out (kOK_1 HKB.out)
          have HF := Lib.hid (below_then HX.out.2.2.2 hb2 (Nat.le_refl _))
          subst hR
          clear hb2 HNO HYES HNOT HALL HL HN1 HX HKB HI
          go_wp2
          go_ret2
          exact ⟨HF.out, rfl⟩
        | true =>
          rw [if_pos rfl]
          rintro e w2 ⟨rfl, hb2⟩
          obtain ⟨rfl, g1, o1, t3, A3, l3, c3, K3, m3, d3, t4, A4, l4, c4, K4, m4, d4, rfl, h2c, h2m, e0, e1, e2, hka, f0, f1, f2, hkc⟩ := two_cells (NdC.below hb2 _ _ _ _ HN1.out) HKB.out
          have h29 : n1 ≤ 9223372036854775807 := by unfold maxLen at h2m; omega
          have HO := Lib.hid (oidOf_any _ (kidF kd 0) _ _ _ w2 hka)
          have hbw2 := below_then HX.out.2.2.2 hb2 (Nat.le_refl _)
          have HB2 := Lib.hid (And.intro hb2 hbw2)
          have HF := Lib.hid (fun W (hW : Below w2.heap.size w2 W) => And.intro (cell_on hW f0) (And.intro (cell_on hW f1) (cell_on hW f2)))
          have hkcw := fun W (hW : Below w2.heap.size w2 W) => NdC.below hW _ _ _ _ hkc
          have HTX := Lib.hid (fun W (hW : Below w2.heap.size w2 W) => textOf_any _ (kidF kd 1) 12 _ _ _ W (hkcw W hW) (HL.out.2.2.2.1.below (below_then hbw2 hW (Nat.le_refl _))))
          have hsz : (strOfNums (kidF kd 1).body).size ≤ maxLen := by
            obtain ⟨z1, z2, z3, z4⟩ := body_size hkc
            rw [strOfNums_size, z4]; exact Nat.le_trans z1 z2
          have HSZ := Lib.hid hsz
          obtain ⟨ok1, hok1⟩ : ∃ x, oidOK (kidF kd 0) = x := ⟨_, rfl⟩
          obtain ⟨ok2, hok2⟩ : ∃ x, textOK 12 (kidF kd 1) = x := ⟨_, rfl⟩
          rw [hok2] at HTX
          have HK1 := Lib.hid hok1
          have HK2 := Lib.hid hok2
          clear hb2 hbw2 hka hkc hkcw hsz f0 f1 f2 h2m hok1 hok2 HN1
          go_wp2_with fail
          refine HO.out.mono ?_
          rintro e w3 ⟨hb3, A5, c5, rfl, hh⟩
          rw [HK1.out]
          have HH := Lib.hid hh
          clear HO e0 e1 e2 hh
          obtain ⟨f0, f1, f2⟩ := HF.out w3 hb3
          have HC := Lib.hid (HTX.out w3 hb3)
          have HB3 := Lib.hid hb3
          obtain ⟨ys, hys⟩ : ∃ x, (oidF (kidF kd 0).body).1 = x := ⟨_, rfl⟩
          obtain ⟨S, hS⟩ : ∃ x, strOfNums (kidF kd 1).body = x := ⟨_, rfl⟩
          have htd : toldA kd = ⟨ys, S⟩ := by rw [← hys, ← hS]; rfl
          rw [hS] at HC HSZ
          rw [hys] at HH ⊢
          have HTD := Lib.hid htd
          clear hb3 HTX HF hys hS htd
          go_wp2_with fail
          refine HC.out.mono ?_
          rintro e w4 ⟨rfl, hb4⟩
          have HB4 := Lib.hid (below_then HB3.out hb4 (Nat.le_refl _))
          have HH4 := Lib.hid (show IHere w2.heap.size A5 c5 ys w4 from ⟨HH.out.1.below hb4, HH.out.2⟩)
          clear HC f0 f1 f2 hb4 HH HB3
          cases ok1 with
          | false =>
            have hR := HNOT.out (kOK_2 HK1.out)
            have HF := Lib.hid (below_then HB2.out.2 HB4.out (Nat.le_refl _))
            subst hR
            clear HNO HYES HNOT HALL HL HX HKB HI HB2 HB4 HH4 HTD HSZ HK1 HK2
            go_wp2
            go_ret2
            exact ⟨HF.out, rfl⟩
          | true =>
            cases ok2 with
            | false =>
              have hR := HNOT.out (kOK_3 HK2.out)
              have HF := Lib.hid (below_then HB2.out.2 HB4.out (Nat.le_refl _))
              subst hR
              clear HNO HYES HNOT HALL HL HX HKB HI HB2 HB4 HH4 HTD HSZ HK1 HK2
              go_wp2
              go_ret2
              exact ⟨HF.out, rfl⟩
            | true =>
              have hall := HALL.out (kOK_4 HKB.out HK1.out HK2.out)
              have h4 := below_then HB2.out.1 HB4.out (Nat.le_refl _)
              have hw1 := HI.out.1.bel.size
              have hw2 := HB2.out.1.size
              have hfr : 0 < ys.length → ∀ g off sp, A5 = some ⟨g, off, sp⟩ → w2.heap.size ≤ g := fun hn g off sp e => by
                obtain ⟨b', off', e', hb', _⟩ := HH4.out.1.2.2 hn
                have := HH4.out.2.2.2 b' off' e'
                rw [e'] at e; cases e; omega
              obtain ⟨A7, c7, w7, hrun, hI7⟩ := HI.out.1.push Tryz.infA2 (fun g hg => hg) (below_then h4 (below_new w4 (.cells #[.slice A5 ys.length c5, .string S] 43)) (Nat.le_refl _)) (x := toldA kd) (news := [.slice A5 ys.length c5, .string S]) (by
                rw [HTD.out]
                exact ⟨_, _, rfl, A5, ys.length, c5, rfl, rfl, HH4.out.2.1, HH4.out.2.2.1, HH4.out.1.below (below_new _ _), fun hl g off sp e => ⟨Nat.le_trans hw1 (Nat.le_trans hw2 (hfr hl g off sp e)), .inr (Nat.le_trans hw2 (hfr hl g off sp e))⟩, HSZ.out⟩) (g1 := w4.heap.size) h4.size (heap_new_ _ _) (fun j u hu => by
                simpa using hu) (by rw [HX.out.2.1]; have := HX.out.2.2.1; omega) (by rw [HX.out.2.1]; have := HX.out.2.2.1; unfold maxLen; omega)
              rw [HX.out.2.1] at hrun hI7
              rw [HX.out.1] at hI7
              have HI7 := Lib.hid (And.intro hI7 hall)
              clear hI7 hall h4 hw1 hw2 hfr HNO HYES HNOT HALL HX HKB HB2 HB4 HH4 HTD HSZ HK1 HK2
              go_wp2_with (at_builtin; refine wpl_append rfl (.tmp 58) (.tmp 62) 29 rfl _ _ _ rfl rfl hrun ?_)
              clear hrun
              go_wp2
              go_roundg gk'
              case measure => omega
              case rel => exact ⟨i + 1, A7, c7, rfl, by go_num, HN.out.1, HN.out.2, HI7⟩
      · obtain rfl : k = i := by omega
        have hltz : ¬ (k : Int) < (k : Int) := by omega
        have htk : ks.take k = ks := by rw [← HL.out.1]; exact List.take_length
        obtain ⟨A2, c2, e2, h1, h2, hLn⟩ := HI.out.1.row.lst (fun g hg => hg)
        have hlk := HL.out.2.2.2.2.1 k (Nat.le_refl _)
        rw [hlk] at e2 h1
        rw [htk] at hLn hlk
        simp only [Value.slice.injEq] at e2
        obtain ⟨rfl, _, rfl⟩ := e2
        have hbw := below_then HB1.out HI.out.1.bel (Nat.le_refl _)
        have hall := HI.out.2
        rw [htk] at hall
        have HRR := Lib.hid (rright_any _ Av k cv (ks.map toldA) wr hlk hLn h1 h2 (HL.out.2.2.2.1.below hbw))
        obtain ⟨rn, hrn⟩ : ∃ x, rightN (ks.map toldA) = x := ⟨_, rfl⟩
        rw [hrn] at HRR
        have HF := Lib.hid (And.intro hbw (And.intro h1 (And.intro h2 (And.intro hLn (And.intro hlk (And.intro hall hrn))))))
        clear h1 h2 hLn hgk hlk htk hbw hall hrn HI
        go_wp2_with fail
        refine HRR.out.mono ?_
        rintro e w5 ⟨rfl, hb5⟩
        have HB5 := Lib.hid hb5
        clear hb5 HRR
        cases rn with
        | false =>
          have hR := HNO.out (fun h => by have := h.2.2; rw [HF.out.2.2.2.2.2.2] at this; cases this)
          have HE := Lib.hid (below_then HF.out.1 HB5.out (Nat.le_refl _))
          subst hR
          clear HNO HYES HF HB5 HL
          go_wp2
          go_ret2
          exact ⟨HE.out, rfl⟩
        | true =>
          have hR := HYES.out (by trivial) HF.out.2.2.2.2.2.1 HF.out.2.2.2.2.2.2
          have HE := Lib.hid (below_then HF.out.1 HB5.out (Nat.le_refl _))
          subst hR
          clear HNO HYES HL
          go_wp2
          go_ret2
          exact ⟨HE.out, Av, cv, by rw [HF.out.2.2.2.2.1]; rfl, by rw [HF.out.2.2.2.2.1]; exact HF.out.2.1, HF.out.2.2.1, (HF.out.2.2.2.1.below HB5.out).mono (fun _ _ => trivial)⟩
end Go.Proofs.YthcancakkkjpaaaGreatDoor.nmc
