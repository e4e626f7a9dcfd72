/- The document's GetPrinc. -/
import Derived.Test.YthcancakkkjpaaaGreatDoorSg
import Derived.Test.YthcancakkkjpaaaGreatDoorRz
namespace Go.Proofs.YthcancakkkjpaaaGreatDoor.nmc
open Go.RowKit Go.Proofs.YthcancakkkjpaaaGreatDoor.tlvc Go.Proofs.YthcancakkkjpaaaGreatDoor.tlvd Go.Proofs.YthcancakkkjpaaaGreatDoor.ndc Go.Proofs.YthcancakkkjpaaaGreatDoor.txc Go.Proofs.YthcancakkkjpaaaGreatDoor.txm Go.Proofs.YthcancakkkjpaaaGreatDoor.intc Go.Proofs.YthcancakkkjpaaaGreatDoor.intm
set_option linter.unusedVariables false
set_option linter.unusedSimpArgs false
theorem rgP_no {n k0 k1 : Nd} (h0 : kidF n 0 = k0) (h1 : kidF n 1 = k1) (h : ¬ (kidsB n 2 = true ∧ (textOK 27 k0 = true ∧ kidsB k1 (-1) = true) ∧ k1.kids.all (textOK 27) = true ∧ rightP ⟨strOfNums k0.body, k1.kids.map btxt⟩ = true)) : rgP n = none := by
  subst h0 h1
  unfold rgP
  exact if_neg h
theorem rgP_yes {n k0 k1 : Nd} (h0 : kidF n 0 = k0) (h1 : kidF n 1 = k1) (h : kidsB n 2 = true ∧ (textOK 27 k0 = true ∧ kidsB k1 (-1) = true) ∧ k1.kids.all (textOK 27) = true ∧ rightP ⟨strOfNums k0.body, k1.kids.map btxt⟩ = true) : rgP n = some ⟨strOfNums k0.body, k1.kids.map btxt⟩ := by
  subst h0 h1
  unfold rgP
  exact if_pos h
theorem kid1_len {n : Nd} (h : ∀ k ∈ n.kids, k.kids.length ≤ 5000) : (kidF n 1).kids.length ≤ 5000 := by
  obtain ⟨t, b, ks⟩ := n
  match ks, h with
  | [], _ => exact Nat.zero_le _
  | [x], _ => exact Nat.zero_le _
  | x :: y :: r, h => exact h y (by simp [Nd.kids])
/-- A principal of the call's own, whose names grow. -/
structure PInv (w4 : World) (b : Nat) (s : ByteArray) (v : Value) (xs : List ByteArray) (wx : World) : Prop where
  at_ : b = w4.heap.size
  bel : Below w4.heap.size w4 wx
  box : wx.heap[b]? = some (.cells #[.string s, v] 35)
  row : GRow stE 9 (b + 1) (fun g => b + 1 ≤ g) wx v xs
theorem PInv.start (w4 : World) (s : ByteArray) : PInv w4 w4.heap.size s (.slice none 0 0) [] (w4.alloc (.cells #[.string s, .slice none 0 0] 35)) := ⟨rfl, below_new _ _, heap_new_ _ _, GRow.nil⟩
theorem PInv.below {w4 : World} {b : Nat} {s : ByteArray} {v : Value} {xs : List ByteArray} {wx w' : World} (h : PInv w4 b s v xs wx) (hb : Below wx.heap.size wx w') : PInv w4 b s v xs w' :=
  ⟨h.at_, below_then h.bel hb (Nat.le_refl _), (hb.block _ (Array.getElem?_eq_some_iff.1 h.box).1).trans h.box, h.row.below (fun g hg => hg) hb⟩
theorem PInv.push {w4 : World} {b : Nat} {s : ByteArray} {v : Value} {xs : List ByteArray} {wx : World} (h : PInv w4 b s v xs wx) (x : ByteArray) (hx : x.size ≤ maxLen) (hn : (xs.length + 1) * 16 ≤ 140737488355328) (hm : xs.length + 1 ≤ maxLen) :
    ∃ A c w7, (Builtin.append_ #[33, 33] 33 #[v, .slice (some ⟨wx.heap.size, 0, none⟩) 1 1]).run Tryz.prog (wx.alloc (.cells #[.string x] 9)) = .ok (.slice A (xs.length + 1) c) w7 ∧ w7.heap[b]? = some (.cells #[.string s, v] 35) ∧ PInv w4 b s (.slice A (xs.length + 1) c) (xs ++ [x]) (w7.setCell ⟨b, 1, none⟩ (.slice A (xs.length + 1) c)) := by
  have h' := h.below (below_new wx (.cells #[.string x] 9))
  have hbl := (Array.getElem?_eq_some_iff.1 h.box).1
  have hown := h.row.lt
  have hsz : wx.heap.size < (wx.alloc (.cells #[.string x] 9)).heap.size := by simp
  have hg1 : (wx.alloc (.cells #[.string x] 9)).heap[wx.heap.size]? = some (.cells #[.string x] 9) := heap_new_ _ _
  have ne : some wx.heap.size ≠ v.ownBlock := fun e => by have := (hown _ e.symm).2; omega
  obtain ⟨v', w2, hr, hrow, hgr⟩ := h'.row.app Tryz.infS (fun g hg => hg) 33 (g := wx.heap.size) (off := 0) (c := 1) (x := x) (news := [.string x]) ⟨by omega, hsz, ne⟩
    (fun j u hu => by rw [Nat.zero_add, Lib.cell_of_heap hg1]; simpa using hu)
    ⟨rfl, hx⟩ hn hm (by omega)
  obtain ⟨A, c, rfl, hc1, hc2⟩ := hrow.shape
  rw [show (xs ++ [x]).length = xs.length + 1 by simp] at hr hrow
  have hlow := h'.bel.size
  have hat := h.at_
  have hbel := h'.bel.grown hgr hlow (fun j hj => by have := (hown j hj).1; omega)
  have hkeep : Below (b + 1) (wx.alloc (.cells #[.string x] 9)) w2 := (Below.refl (b + 1) _).grown hgr (by omega) (fun j hj => (hown j hj).1)
  have hbox2 := (hkeep.block b (by omega)).trans h'.box
  refine ⟨A, c, w2, hr, hbox2, hat, hbel.setCell (p := ⟨b, 1, none⟩) (by show w4.heap.size ≤ b; omega) _, set_heap _ _ 1 _ _ _ _ hbox2, ?_⟩
  refine hrow.keep (fun g hg => hg) (by rw [set_size]; exact Nat.le_refl _) (fun g hg hgY => set_heap_other _ _ _ _ _ (by omega))
set_option maxRecDepth 100000 in
set_option maxHeartbeats 8000000 in
theorem rgetPrinc_any (B : Nat → Prop) (n : Nd) (c0 c1 c2 : Value) (w : World) (hn : NdC B w n c0 c1 c2) (hks : (kidF n 1).kids.length ≤ 5000) (hT : Tabs w) :
    Calls Tryz.prog 9 #[.agg #[c0, c1, c2]] w (GetPPost w (rgP n)) := by
  obtain ⟨k0, hk0⟩ : ∃ x, kidF n 0 = x := ⟨_, rfl⟩
  obtain ⟨k1, hk1⟩ : ∃ x, kidF n 1 = x := ⟨_, rfl⟩
  have hno := fun h => rgP_no hk0 hk1 h
  have hyes := fun h => rgP_yes hk0 hk1 h
  obtain ⟨R, hR⟩ : ∃ x, rgP n = x := ⟨_, rfl⟩
  rw [hR] at hno hyes ⊢
  obtain ⟨S, hS⟩ : ∃ x, strOfNums k0.body = x := ⟨_, rfl⟩
  rw [hS] at hno hyes
  clear hR
  obtain ⟨t, A, la, ca, K, lk, ck, rfl, rfl, rfl⟩ := hn.shape
  obtain ⟨W0, hW0⟩ : ∃ x, (w.alloc (.cells #[.int .u8 t, .slice A la ca, .slice K lk ck] 25)).alloc (.cells #[.string ⟨#[]⟩, .slice none 0 0] 35) = x := ⟨_, rfl⟩
  have hb0 : Below w.heap.size w W0 := by rw [← hW0]; exact (below_new _ _).alloc (by simp) _
  have p0 : W0.heap[w.heap.size + 1]? = some (.cells #[.string ⟨#[]⟩, .slice none 0 0] 35) := by rw [← hW0]; exact heap_is (by simp)
  have q0 : W0.heap[w.heap.size]? = some (.cells #[.int .u8 t, .slice A la ca, .slice K lk ck] 25) := by rw [← hW0, heap_old_ _ _ (by simp)]; exact heap_new_ _ _
  obtain ⟨x0, x1, x2⟩ := box3_ (Below.refl _ W0) q0
  have hn0 := NdC.below hb0 _ _ _ _ hn
  have HK := Lib.hid (kids_any _ n 2 (.inr rfl) _ _ _ W0 hn0)
  have htc := fun w1 (h : Below W0.heap.size W0 w1) (h2 : kidsB n 2 = true) => two_cells (NdC.below h _ _ _ _ hn0) h2
  rw [hk0, hk1] at htc
  rw [hk1] at hks
  obtain ⟨kb, hkb⟩ : ∃ x, kidsB n 2 = x := ⟨_, rfl⟩
  rw [hkb] at HK hno hyes
  have htc := fun w1 h => htc w1 h
  rw [hkb] at htc
  have HTC := Lib.hid htc
  have HNO := Lib.hid hno
  have HYES := Lib.hid hyes
  have HP0 := Lib.hid (And.intro hb0 (And.intro p0 (hT.below hb0)))
  have HKS := Lib.hid hks
  have HSS := Lib.hid hS
  clear htc hno hyes hb0 p0 q0 hn0 hk0 hk1 hks hkb hS hT hn
  go_enter Tryz.func9, Tryz.ntmps9
  go_wp2_with fail
  refine HK.out.mono ?_
  clear HK
  cases kb with
  | false =>
    rw [if_neg (by decide)]
    rintro e w1 ⟨rfl, hb1⟩
    have HB1 := Lib.hid hb1
    clear hb1 x0 x1 x2 hW0
    have hR := HNO.out (fun h => by cases h.1)
    have hbe := HB1.out
    have pR := (hbe.block _ (Array.getElem?_eq_some_iff.1 HP0.out.2.1).1).trans HP0.out.2.1
    obtain ⟨r0, r1, hBr, _, _⟩ := res2 (y0 := .string ⟨#[]⟩) (y1 := .slice none 0 0) (Nat.le_succ _) (below_then HP0.out.1 hbe (Nat.le_refl _)) pR
    have f0 := Lib.frozen_of_heap pR 0
    have f1 := Lib.frozen_of_heap pR 1
    have s0 := (Lib.cell_of_heap pR 0).trans rfl
    have s1 := (Lib.cell_of_heap pR 1).trans rfl
    have HE := Lib.hid hBr
    subst hR
    clear hbe pR hBr HNO HYES HTC HSS HP0 HB1
    go_wp2_with fail
    refine bodyPost_ret (v := .tuple #[.agg #[.string ⟨#[]⟩, .slice none 0 0], .int .i64 91]) ?_ rfl ⟨HE.out, rfl⟩
    simp [results, Tryz.results9, go_sem, r0, r1]
  | true =>
    rw [if_pos rfl]
    rintro e w1 ⟨rfl, hb1⟩
    obtain ⟨rfl, g1, o1, t3, A3, l3, c3, K3, m3, d3, t4, A4, l4, c4, K4, m4, d4, rfl, h2c, h2m, e0, e1, e2, hka, f0, f1, f2, hkc⟩ := HTC.out w1 hb1 rfl
    have h29 : ck ≤ 9223372036854775807 := by unfold maxLen at h2m; omega
    have HB1 := Lib.hid hb1
    have hT1 := HP0.out.2.2.below hb1
    have HTX := Lib.hid (textOf_any _ k0 27 _ _ _ w1 hka hT1)
    have HF := Lib.hid (fun W (hW : Below w1.heap.size w1 W) => And.intro (cell_on hW f0) (And.intro (cell_on hW f1) (cell_on hW f2)))
    have HKC := Lib.hid (fun W (hW : Below w1.heap.size w1 W) => NdC.below hW _ _ _ _ hkc)
    have HK2 := Lib.hid (fun W (hW : Below w1.heap.size w1 W) => kids_any _ k1 (-1) (.inl rfl) _ _ _ W (NdC.below hW _ _ _ _ hkc))
    have hsz : S.size ≤ maxLen := by
      obtain ⟨z1, z2, z3, z4⟩ := body_size hka
      rw [← HSS.out, strOfNums_size, z4]; exact Nat.le_trans z1 z2
    have HSZ := Lib.hid hsz
    have HT1 := Lib.hid hT1
    rw [HSS.out] at HTX
    obtain ⟨ok1, hok1⟩ : ∃ x, textOK 27 k0 = x := ⟨_, rfl⟩
    obtain ⟨kb1, hkb1⟩ : ∃ x, kidsB k1 (-1) = x := ⟨_, rfl⟩
    rw [hok1] at HTX HNO HYES
    rw [hkb1] at HK2 HNO HYES
    clear hb1 x0 x1 x2 hW0 hka hkc hsz f0 f1 f2 h2m hok1 hkb1 hT1
    go_wp2_with fail
    refine HTX.out.mono ?_
    rintro e w2 ⟨rfl, hb2⟩
    clear HTX e0 e1 e2
    obtain ⟨f0, f1, f2⟩ := HF.out w2 hb2
    have HC := Lib.hid (HK2.out w2 hb2)
    have HB2 := Lib.hid hb2
    clear hb2 HK2
    obtain ⟨kv, hkv⟩ : ∃ x : Value, (if kb1 = true then .slice K4 m4 d4 else .slice none 0 0) = x := ⟨_, rfl⟩
    rw [hkv] at HC
    go_wp2_with fail
    refine HC.out.mono ?_
    rintro e w3 ⟨rfl, hb3⟩
    have HB3 := Lib.hid (below_then HB2.out hb3 (Nat.le_refl _))
    clear HC f0 f1 f2 hb3 HF
    cases ok1 with
    | false =>
      clear hkv
      have hR := HNO.out (fun h => by cases h.2.1.1)
      have hbe := below_then HB1.out HB3.out (Nat.le_refl _)
      have pR := (hbe.block _ (Array.getElem?_eq_some_iff.1 HP0.out.2.1).1).trans HP0.out.2.1
      obtain ⟨r0, r1, hBr, _, _⟩ := res2 (y0 := .string ⟨#[]⟩) (y1 := .slice none 0 0) (Nat.le_succ _) (below_then HP0.out.1 hbe (Nat.le_refl _)) pR
      have f0 := Lib.frozen_of_heap pR 0
      have f1 := Lib.frozen_of_heap pR 1
      have s0 := (Lib.cell_of_heap pR 0).trans rfl
      have s1 := (Lib.cell_of_heap pR 1).trans rfl
      have HE := Lib.hid hBr
      subst hR
      clear hbe pR hBr HNO HYES HTC HSS HP0 HB1 HB2 HB3 HKC HSZ HT1
      go_wp2_with fail
      refine bodyPost_ret (v := .tuple #[.agg #[.string ⟨#[]⟩, .slice none 0 0], .int .i64 91]) ?_ rfl ⟨HE.out, rfl⟩
      simp [results, Tryz.results9, go_sem, r0, r1]
    | true =>
      cases kb1 with
      | false =>
        obtain rfl : .slice none 0 0 = kv := hkv
        have hR := HNO.out (fun h => by cases h.2.1.2)
        have hbe := below_then HB1.out HB3.out (Nat.le_refl _)
        have pR := (hbe.block _ (Array.getElem?_eq_some_iff.1 HP0.out.2.1).1).trans HP0.out.2.1
        obtain ⟨r0, r1, hBr, _, _⟩ := res2 (y0 := .string ⟨#[]⟩) (y1 := .slice none 0 0) (Nat.le_succ _) (below_then HP0.out.1 hbe (Nat.le_refl _)) pR
        have f0 := Lib.frozen_of_heap pR 0
        have f1 := Lib.frozen_of_heap pR 1
        have s0 := (Lib.cell_of_heap pR 0).trans rfl
        have s1 := (Lib.cell_of_heap pR 1).trans rfl
        have HE := Lib.hid hBr
        subst hR
        clear hbe pR hBr HNO HYES HTC HSS HP0 HB1 HB2 HB3 HKC HSZ HT1
        go_wp2_with fail
        refine bodyPost_ret (v := .tuple #[.agg #[.string ⟨#[]⟩, .slice none 0 0], .int .i64 91]) ?_ rfl ⟨HE.out, rfl⟩
        simp [results, Tryz.results9, go_sem, r0, r1]
      | true =>
        obtain rfl : .slice K4 m4 d4 = kv := hkv
        have hkc := HKC.out w3 HB3.out
        obtain ⟨tt, bb, ms⟩ := k1
        have hmm : (Nd.mk tt bb ms).kids = ms := rfl
        rw [hmm] at HNO HYES HKS
        obtain ⟨_, _, _, K5, ck5, e5, hq1, hq2, hq3⟩ := NdC.kidsL hkc
        simp only [Value.slice.injEq] at e5
        obtain ⟨rfl, rfl, rfl⟩ := e5
        have hd9 : d4 ≤ 9223372036854775807 := by unfold maxLen at hq2; omega
        obtain ⟨k, hk⟩ : ∃ x, ms.length = x := ⟨_, rfl⟩
        have hkd4 : k ≤ d4 := by rw [← hk]; exact hq1
        have hlk : ∀ i, i ≤ k → ((ms.take i).map btxt).length = i := fun i hi => by rw [List.length_map, List.length_take]; omega
        have hw3 := below_then HB1.out HB3.out (Nat.le_refl _)
        have HL := Lib.hid (And.intro hk (And.intro hq3 (And.intro hw3 (And.intro (HT1.out.below HB3.out) (And.intro hlk HKS.out)))))
        rw [hk]
        clear hkc hq1 hq2 hq3 hk hlk hw3 HKC HT1 HKS HB1 HB2 HB3 hmm
        go_wp2_with fail
        go_loopg [11] (k + 1) (fun gk s11 wx => ∃ (i : Nat) (Av : Option Addr) (cv : Nat), s11 = .int .i64 i ∧ i ≤ k ∧ k - i < gk ∧ Hid (PInv w3 w3.heap.size S (.slice Av i cv) ((ms.take i).map btxt) wx ∧ (ms.take i).all (textOK 27) = true))
        case atStart => exact ⟨0, none, 0, rfl, by omega, by omega, Lib.hid ⟨PInv.start _ _, rfl⟩⟩
        case round =>
          obtain ⟨i, Av, cv, rfl, hi, hgk, HI⟩ := hrel
          by_cases hlt : i < k
          · have hltz : (i : Int) < (k : Int) := by omega
            obtain ⟨gk', rfl⟩ : ∃ g', gk = g' + 1 := ⟨gk - 1, by omega⟩
            have HN := Lib.hid (And.intro (show i + 1 ≤ k from hlt) (show k - (i + 1) < gk' by omega))
            have hix : i < ms.length := by rw [HL.out.1]; exact hlt
            have hbw := below_then HL.out.2.2.1 HI.out.1.bel (Nat.le_refl _)
            obtain ⟨g, off, t1, A1, l1, j1, K1, m1, n1, rfl, e0, e1, e2, hn1⟩ := nd_cells HL.out.2.1 HI.out.1.bel i hix
            have hlk := HL.out.2.2.2.2.1 i hi
            have hk5 := HL.out.2.2.2.2.2
            rw [HL.out.1] at hk5
            obtain ⟨kd, hkd⟩ : ∃ x, ms[i] = x := ⟨_, rfl⟩
            rw [hkd] at hn1
            have hsz2 : (strOfNums kd.body).size ≤ maxLen := by
              obtain ⟨z1, z2, z3, z4⟩ := body_size hn1
              rw [strOfNums_size, z4]; exact Nat.le_trans z1 z2
            have hnx : (ms.take i).map btxt ++ [btxt kd] = (ms.take (i + 1)).map btxt := by rw [List.take_succ_eq_append_getElem hix, List.map_append, List.map_cons, List.map_nil, hkd]
            have HALL := Lib.hid (fun (h : textOK 27 kd = true) => all_take (P := textOK 27) hix HI.out.2 (by rw [hkd]; exact h))
            have HNOT := Lib.hid (fun (h : textOK 27 kd = false) (h2 : ms.all (textOK 27) = true) => all_no (P := textOK 27) hix (by rw [hkd]; exact h) h2)
            have HC := Lib.hid (textOf_any _ kd 27 _ _ _ wr hn1 (HL.out.2.2.2.1.below HI.out.1.bel))
            obtain ⟨Sx, hSx⟩ : ∃ x, strOfNums kd.body = x := ⟨_, rfl⟩
            rw [show btxt kd = Sx from hSx] at hnx
            rw [hSx] at HC hsz2
            have HX := Lib.hid (And.intro hnx (And.intro hlk (And.intro hk5 (And.intro hbw hsz2))))
            obtain ⟨okd, hokd⟩ : ∃ x, textOK 27 kd = x := ⟨_, rfl⟩
            rw [hokd] at HC HALL HNOT
            clear hn1 hnx hlk hk5 hgk hbw hkd hSx hokd hsz2
            go_wp2_with fail
            refine HC.out.mono ?_
            rintro e w5 ⟨rfl, hb5⟩
            clear HC e0 e1 e2
            cases okd with
            | false =>
              have HB5 := Lib.hid (below_then HX.out.2.2.2.1 hb5 (Nat.le_refl _))
              clear hb5
              have hR := HNO.out (fun h => HNOT.out rfl h.2.2.1)
              have hbe := HB5.out
              have pR := (hbe.block _ (Array.getElem?_eq_some_iff.1 HP0.out.2.1).1).trans HP0.out.2.1
              obtain ⟨r0, r1, hBr, _, _⟩ := res2 (y0 := .string ⟨#[]⟩) (y1 := .slice none 0 0) (Nat.le_succ _) (below_then HP0.out.1 hbe (Nat.le_refl _)) pR
              have f0 := Lib.frozen_of_heap pR 0
              have f1 := Lib.frozen_of_heap pR 1
              have s0 := (Lib.cell_of_heap pR 0).trans rfl
              have s1 := (Lib.cell_of_heap pR 1).trans rfl
              have HE := Lib.hid hBr
              subst hR
              clear hbe pR hBr HNO HYES HTC HSS HP0 HALL HX HI HL HB5 HSZ HNOT
              go_wp2_with fail
              refine bodyPost_ret (v := .tuple #[.agg #[.string ⟨#[]⟩, .slice none 0 0], .int .i64 91]) ?_ rfl ⟨HE.out, rfl⟩
              simp [results, Tryz.results9, go_sem, r0, r1]
            | true =>
              have hall := HALL.out rfl
              have hpi := HI.out.1.below hb5
              obtain ⟨A7, c7, w7, hrun, hbox7, hI7⟩ := hpi.push Sx HX.out.2.2.2.2 (by rw [HX.out.2.1]; have := HX.out.2.2.1; omega) (by rw [HX.out.2.1]; have := HX.out.2.2.1; unfold maxLen; omega)
              rw [HX.out.2.1] at hrun hI7
              rw [HX.out.1] at hI7
              have v1 := (Lib.cell_of_heap hpi.box 1).trans rfl
              have f1 := Lib.frozen_of_heap hbox7 1
              have s1 := (Lib.cell_of_heap hbox7 1).trans rfl
              have HI7 := Lib.hid (And.intro hI7 hall)
              clear hI7 hall hpi hbox7 hb5 HNO HYES HTC HNOT HALL HX
              go_wp2_with (at_builtin; refine wpl_append rfl (.tmp 62) (.tmp 64) 33 rfl _ _ _ rfl rfl hrun ?_)
              clear hrun v1 f1 s1
              go_wp2
              go_roundg gk'
              case measure => omega
              case rel => exact ⟨i + 1, A7, c7, by go_num, HN.out.1, HN.out.2, HI7⟩
          · obtain rfl : k = i := by omega
            have hltz : ¬ (k : Int) < (k : Int) := by omega
            have htk : ms.take k = ms := by rw [← HL.out.1]; exact List.take_length
            obtain ⟨A2, c2, e2, h1, h2, hLn⟩ := HI.out.1.row.lst (fun g hg => hg)
            have hlk := HL.out.2.2.2.2.1 k (Nat.le_refl _)
            rw [hlk] at e2 h1
            rw [htk] at hLn hlk
            simp only [Value.slice.injEq] at e2
            obtain ⟨rfl, _, rfl⟩ := e2
            have hbw := below_then HL.out.2.2.1 HI.out.1.bel (Nat.le_refl _)
            have hall := HI.out.2
            rw [htk] at hall
            obtain ⟨nm, hnm⟩ : ∃ x, ms.map btxt = x := ⟨_, rfl⟩
            rw [hnm] at hLn hlk HNO HYES
            have hprc : PrC (fun g => w3.heap.size + 1 ≤ g) wr ⟨S, nm⟩ (.string S) (.slice Av k cv) := ⟨Av, cv, rfl, by rw [hlk], by rw [hlk]; exact h1, h2, hLn, HSZ.out⟩
            have HRR := Lib.hid (rrightP_any _ ⟨S, nm⟩ _ _ wr hprc (HL.out.2.2.2.1.below HI.out.1.bel))
            have hbxx := HI.out.1.box
            have v0 := (Lib.cell_of_heap hbxx 0).trans rfl
            have v1 := (Lib.cell_of_heap hbxx 1).trans rfl
            obtain ⟨rn, hrn⟩ : ∃ x, rightP ⟨S, nm⟩ = x := ⟨_, rfl⟩
            rw [hrn] at HRR HNO HYES
            have HF := Lib.hid (And.intro hbw (And.intro hbxx (And.intro hprc hall)))
            have HZ3 := Lib.hid (And.intro HL.out.2.2.1.size HI.out.1.bel.size)
            clear h1 h2 hLn hgk hlk htk hbw hall hrn HI hprc hbxx hnm
            go_wp2_with fail
            refine HRR.out.mono ?_
            rintro e w5 ⟨rfl, hb5⟩
            have HB5 := Lib.hid hb5
            clear hb5 HRR v0 v1
            cases rn with
            | false =>
              have hR := HNO.out (fun h => by cases h.2.2.2)
              have hbe := below_then HF.out.1 HB5.out (Nat.le_refl _)
              have pR := (hbe.block _ (Array.getElem?_eq_some_iff.1 HP0.out.2.1).1).trans HP0.out.2.1
              obtain ⟨r0, r1, hBr, _, _⟩ := res2 (y0 := .string ⟨#[]⟩) (y1 := .slice none 0 0) (Nat.le_succ _) (below_then HP0.out.1 hbe (Nat.le_refl _)) pR
              have f0 := Lib.frozen_of_heap pR 0
              have f1 := Lib.frozen_of_heap pR 1
              have s0 := (Lib.cell_of_heap pR 0).trans rfl
              have s1 := (Lib.cell_of_heap pR 1).trans rfl
              have HE := Lib.hid hBr
              subst hR
              clear hbe pR hBr HNO HYES HTC HSS HP0 HF HB5 HL HSZ HZ3
              go_wp2_with fail
              refine bodyPost_ret (v := .tuple #[.agg #[.string ⟨#[]⟩, .slice none 0 0], .int .i64 91]) ?_ rfl ⟨HE.out, rfl⟩
              simp [results, Tryz.results9, go_sem, r0, r1]
            | true =>
              have hR := HYES.out ⟨by trivial, ⟨by trivial, by trivial⟩, HF.out.2.2.2, by trivial⟩
              have hbe := below_then HF.out.1 HB5.out (Nat.le_refl _)
              have pR := (hbe.block _ (Array.getElem?_eq_some_iff.1 HP0.out.2.1).1).trans HP0.out.2.1
              have hlt0 := (Array.getElem?_eq_some_iff.1 HP0.out.2.1).1
              obtain ⟨r0, r1, hBr, hoth, hszr⟩ := res2 (y0 := .string S) (y1 := .slice Av k cv) (Nat.le_succ _) (below_then HP0.out.1 hbe (Nat.le_refl _)) pR
              have hbxx := (HB5.out.block _ (Array.getElem?_eq_some_iff.1 HF.out.2.1).1).trans HF.out.2.1
              have v0 := (Lib.cell_of_heap hbxx 0).trans rfl
              have v1 := (Lib.cell_of_heap hbxx 1).trans rfl
              have f0 := Lib.frozen_of_heap pR 0
              have f1 := Lib.frozen_of_heap pR 1
              have s0 := (Lib.cell_of_heap pR 0).trans rfl
              have s1 := (Lib.cell_of_heap pR 1).trans rfl
              have hprc := ((HF.out.2.2.1.below HB5.out).on (B' := fun _ => True) (by rw [hszr]; exact Nat.le_refl _) (fun g hg hgl => hoth g (by have := HZ3.out.1; omega)) (fun _ _ _ => trivial))
              have HE := Lib.hid (And.intro hBr hprc)
              subst hR
              clear hbe pR hBr hprc hbxx hoth hszr hlt0 HNO HYES HTC HF HB5 HL HSZ HSS HZ3
              go_wp2_with fail
              refine bodyPost_ret (v := .tuple #[.agg #[.string S, .slice Av k cv], .int .i64 0]) ?_ rfl ⟨HE.out.1, S, Av, k, cv, rfl, HE.out.2⟩
              simp [results, Tryz.results9, go_sem, r0, r1]
end Go.Proofs.YthcancakkkjpaaaGreatDoor.nmc
