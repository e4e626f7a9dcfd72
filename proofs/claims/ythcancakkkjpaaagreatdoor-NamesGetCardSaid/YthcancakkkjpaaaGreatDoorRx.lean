/- The program's partsOf, for parts of a name and for texts. -/
import Derived.Test.YthcancakkkjpaaaGreatDoorRw
namespace Go.Proofs.YthcancakkkjpaaaGreatDoor.nmc
open Go.RowKit Go.Proofs.YthcancakkkjpaaaGreatDoor.tlvc Go.Proofs.YthcancakkkjpaaaGreatDoor.tlvd Go.Proofs.YthcancakkkjpaaaGreatDoor.ndc Go.Proofs.YthcancakkkjpaaaGreatDoor.txc Go.Proofs.YthcancakkkjpaaaGreatDoor.txm Go.Proofs.YthcancakkkjpaaaGreatDoor.intc Go.Proofs.YthcancakkkjpaaaGreatDoor.intm
set_option linter.unusedVariables false
set_option linter.unusedSimpArgs false
def btxt (n : Nd) : ByteArray := strOfNums n.body
set_option maxRecDepth 100000 in
set_option maxHeartbeats 8000000 in
theorem partsA_any (B : Nat → Prop) (n : Nd) (c0 c1 c2 : Value) (w : World) (hn : NdC B w n c0 c1 c2) :
    Calls Tryz.prog 16 #[.agg #[c0, c1, c2], .int .i64 8, .func (.func 17) #[] #[]] w fun e w' => Below w.heap.size w w' ∧ ∃ A c, e = .returned (.slice A ((n.kids.take 8).map toldA).length c) ∧ ((n.kids.take 8).map toldA).length ≤ c ∧ c ≤ maxLen ∧ Lst atE (fun g => w.heap.size ≤ g) w' A ((n.kids.take 8).map toldA) := by
  obtain ⟨t, b, ks⟩ := n
  obtain ⟨rfl, ht, ⟨A, la, ca, rfl, _, _, _, _⟩, K, ck, rfl, hK1, hK2, hK3⟩ := NdC.kidsL hn
  have hent := enters_of Tryz.func17 (by kernel_rfl) rfl
  have h9 : ck ≤ 9223372036854775807 := by unfold maxLen at hK2; omega
  show Calls _ _ _ _ (fun e w' => Below w.heap.size w w' ∧ ∃ A c, e = .returned (.slice A ((ks.take 8).map toldA).length c) ∧ ((ks.take 8).map toldA).length ≤ c ∧ c ≤ maxLen ∧ Lst atE (fun g => w.heap.size ≤ g) w' A ((ks.take 8).map toldA))
  obtain ⟨n, hn0⟩ : ∃ x, ks.length = x := ⟨_, rfl⟩
  rw [hn0] at hK1 ⊢
  obtain ⟨k, hk⟩ : ∃ x, min n 8 = x := ⟨_, rfl⟩
  have hmin : min ((n : Nat) : Int) 8 = ((k : Nat) : Int) := by rw [← hk]; omega
  have hkn : k ≤ n := by omega
  have hk8 : k ≤ 8 := by omega
  have hkc : (k : Int) ≤ (ck : Int) := by omega
  have hkc2 : k ≤ ck := by omega
  have htk : ks.take 8 = ks.take k := by
    rw [← hk, ← hn0]
    rcases Nat.le_total ks.length 8 with h | h
    · rw [Nat.min_eq_left h, List.take_of_length_le h, List.take_of_length_le (Nat.le_refl _)]
    · rw [Nat.min_eq_right h]
  have hlk : ∀ i, i ≤ k → ((ks.take i).map toldA).length = i := fun i hi => by rw [List.length_map, List.length_take]; omega
  obtain ⟨W0, hW0⟩ : ∃ x, w.alloc (.cells #[.int .u8 t, .slice A la ca, .slice K n ck] 25) = x := ⟨_, rfl⟩
  have hb0 : Below w.heap.size w W0 := by rw [← hW0]; exact below_new _ _
  have q0 : W0.heap[w.heap.size]? = some (.cells #[.int .u8 t, .slice A la ca, .slice K n ck] 25) := by rw [← hW0]; exact heap_new_ _ _
  obtain ⟨x0, x1, x2⟩ := box_nd (Below.refl _ W0) q0
  obtain ⟨TL, hTL⟩ : ∃ x, (ks.take 8).map toldA = x := ⟨_, rfl⟩
  have hTL2 : (ks.take k).map toldA = TL := by rw [← htk]; exact hTL
  have hTL3 : TL.length = k := by rw [← hTL2]; exact hlk k (Nat.le_refl _)
  rw [hTL, hTL3]
  have HTL := Lib.hid hTL2
  clear hTL hTL2 hTL3
  have HL := Lib.hid (And.intro hn0 (And.intro hK3 (And.intro hb0 (And.intro htk (And.intro hlk (And.intro hkn hk8))))))
  clear hn0 hK3 hb0 htk hlk q0 hK1 hK2 hk hn ht
  go_enter Tryz.func16, Tryz.ntmps16
  go_wp2_with fail
  go_loopg [7, 19] (k + 1) (fun gk s7 s19 wx => ∃ (i : Nat) (Av : Option Addr) (cv : Nat), s7 = .slice Av i cv ∧ s19 = .int .i64 i ∧ i ≤ k ∧ k - i < gk ∧ Hid (LInv atE 43 (fun g => w.heap.size ≤ g) W0 (.slice Av i cv) ((ks.take i).map toldA) wx))
  case atStart => exact ⟨0, none, 0, rfl, rfl, by omega, by omega, Lib.hid LInv.start⟩
  case round =>
    obtain ⟨i, Av, cv, rfl, rfl, hi, hgk, HI⟩ := hrel
    clear x0 x1 x2
    by_cases hlt : i < k
    · have hltz : (i : Int) < (k : Int) := by omega
      obtain ⟨gk', rfl⟩ : ∃ g', gk = g' + 1 := ⟨gk - 1, by omega⟩
      have HN := Lib.hid (And.intro (show i + 1 ≤ k from hlt) (show k - (i + 1) < gk' by omega))
      have hix : i < ks.length := by rw [HL.out.1]; have := HL.out.2.2.2.2.2.1; omega
      have hbw := below_then HL.out.2.2.1 HI.out.bel (Nat.le_refl _)
      obtain ⟨g, off, t1, A1, l1, k1, K1, m1, n1, rfl, e0, e1, e2, hn1⟩ := nd_cells HL.out.2.1 hbw i hix
      have hbx := below_new wr (.cells #[.int .u8 t1, .slice A1 l1 k1, .slice K1 m1 n1] 25)
      have hcall := attrOf_any B ks[i] _ _ _ _ (NdC.below hbx _ _ _ _ hn1)
      have hnx : (ks.take i).map toldA ++ [toldA ks[i]] = (ks.take (i + 1)).map toldA := by rw [List.take_succ_eq_append_getElem hix, List.map_append, List.map_cons, List.map_nil]
      have hlk := HL.out.2.2.2.2.1 i hi
      have hk8 := HL.out.2.2.2.2.2.2
      have HC := Lib.hid hcall
      have HB := Lib.hid hbx
      clear hcall hbx hn1 hgk hbw
      go_wp2_with fail
      refine HC.out.mono ?_
      rintro e w2 ⟨⟨A3, l3, c3, s3, rfl, hold, hb2⟩, hfr⟩
      have hfr := hfr A3 l3 c3 s3 rfl
      have hb2' := hb2
      have hb2 := below_then HB.out hb2 (Nat.le_refl _)
      obtain ⟨_, _, ee, A4, l4, c4, e4, e5, h1, h2, h3, h4, h5⟩ := hold
      simp only [List.cons.injEq, and_true] at ee
      obtain ⟨rfl, rfl⟩ := ee
      simp only [Value.slice.injEq] at e4
      obtain ⟨rfl, rfl, rfl⟩ := e4
      have h0 := HB.out.size
      have hwz := (below_then HL.out.2.2.1 HI.out.bel (Nat.le_refl _)).size
      obtain ⟨A7, c7, w7, hrun, hI7⟩ := HI.out.push Tryz.infAs (fun g hg => Nat.le_trans HL.out.2.2.1.size hg) (below_then hb2 (below_new w2 (.cells #[.slice A3 l3 c3, .string s3] 43)) (Nat.le_refl _)) (x := toldA ks[i]) (news := [.slice A3 l3 c3, .string s3]) (⟨_, _, rfl, A3, l3, c3, rfl, e5, h1, h2, h3.below (below_new _ _), fun hl g off sp e => ⟨Nat.le_trans hwz (Nat.le_trans h0 (hfr hl g off sp e)), .inr (Nat.le_trans h0 (hfr hl g off sp e))⟩, h5⟩) (g1 := w2.heap.size) hb2.size (heap_new_ _ _) (fun j u hu => by
        simpa using hu) (by rw [hlk]; omega) (by rw [hlk]; unfold maxLen; omega)
      rw [hlk] at hrun hI7
      rw [hnx] at hI7
      have HI7 := Lib.hid hI7
      clear hI7 hnx hlk hk8 e0 e1 e2 HC HB hb2 hb2' hfr h0 hwz h1 h2 h3 h4 h5 e5
      go_wp2_with (at_builtin; refine wpl_append rfl (.tmp 23) (.tmp 27) 28 rfl _ _ _ rfl rfl hrun ?_)
      clear hrun
      go_wp2
      go_roundg gk'
      case measure => omega
      case rel => exact ⟨i + 1, A7, c7, rfl, by go_num, HN.out.1, HN.out.2, HI7⟩
    · obtain rfl : k = i := by omega
      have hltz : ¬ (k : Int) < (k : Int) := by omega
      obtain ⟨A2, c2, e2, h1, h2, hLn⟩ := HI.out.row.lst (fun g hg => Nat.le_trans HL.out.2.2.1.size hg)
      have hlk := HL.out.2.2.2.2.1 k (Nat.le_refl _)
      rw [hlk] at e2 h1
      simp only [Value.slice.injEq] at e2
      obtain ⟨rfl, _, rfl⟩ := e2
      rw [HTL.out] at hLn
      have HF := Lib.hid (And.intro (below_then HL.out.2.2.1 HI.out.bel (Nat.le_refl _)) (And.intro h1 (And.intro h2 hLn)))
      clear h1 h2 hLn hgk hlk
      go_wp2
      go_ret
      exact ⟨HF.out.1, Av, cv, rfl, HF.out.2.1, HF.out.2.2.1, HF.out.2.2.2⟩
set_option maxRecDepth 100000 in
set_option maxHeartbeats 8000000 in
theorem partsS_any (B : Nat → Prop) (n : Nd) (c0 c1 c2 : Value) (w : World) (hn : NdC B w n c0 c1 c2) :
    Calls Tryz.prog 25 #[.agg #[c0, c1, c2], .int .i64 8, .func (.func 26) #[] #[]] w fun e w' => Below w.heap.size w w' ∧ ∃ A c, e = .returned (.slice A ((n.kids.take 8).map btxt).length c) ∧ ((n.kids.take 8).map btxt).length ≤ c ∧ c ≤ maxLen ∧ Lst stE (fun g => w.heap.size ≤ g) w' A ((n.kids.take 8).map btxt) := by
  obtain ⟨t, b, ks⟩ := n
  obtain ⟨rfl, ht, ⟨A, la, ca, rfl, _, _, _, _⟩, K, ck, rfl, hK1, hK2, hK3⟩ := NdC.kidsL hn
  have hent := enters_of Tryz.func26 (by kernel_rfl) rfl
  have h9 : ck ≤ 9223372036854775807 := by unfold maxLen at hK2; omega
  show Calls _ _ _ _ (fun e w' => Below w.heap.size w w' ∧ ∃ A c, e = .returned (.slice A ((ks.take 8).map btxt).length c) ∧ ((ks.take 8).map btxt).length ≤ c ∧ c ≤ maxLen ∧ Lst stE (fun g => w.heap.size ≤ g) w' A ((ks.take 8).map btxt))
  obtain ⟨n, hn0⟩ : ∃ x, ks.length = x := ⟨_, rfl⟩
  rw [hn0] at hK1 ⊢
  obtain ⟨k, hk⟩ : ∃ x, min n 8 = x := ⟨_, rfl⟩
  have hmin : min ((n : Nat) : Int) 8 = ((k : Nat) : Int) := by rw [← hk]; omega
  have hkn : k ≤ n := by omega
  have hk8 : k ≤ 8 := by omega
  have hkc : (k : Int) ≤ (ck : Int) := by omega
  have hkc2 : k ≤ ck := by omega
  have htk : ks.take 8 = ks.take k := by
    rw [← hk, ← hn0]
    rcases Nat.le_total ks.length 8 with h | h
    · rw [Nat.min_eq_left h, List.take_of_length_le h, List.take_of_length_le (Nat.le_refl _)]
    · rw [Nat.min_eq_right h]
  have hlk : ∀ i, i ≤ k → ((ks.take i).map btxt).length = i := fun i hi => by rw [List.length_map, List.length_take]; omega
  obtain ⟨W0, hW0⟩ : ∃ x, w.alloc (.cells #[.int .u8 t, .slice A la ca, .slice K n ck] 25) = x := ⟨_, rfl⟩
  have hb0 : Below w.heap.size w W0 := by rw [← hW0]; exact below_new _ _
  have q0 : W0.heap[w.heap.size]? = some (.cells #[.int .u8 t, .slice A la ca, .slice K n ck] 25) := by rw [← hW0]; exact heap_new_ _ _
  obtain ⟨x0, x1, x2⟩ := box_nd (Below.refl _ W0) q0
  obtain ⟨TL, hTL⟩ : ∃ x, (ks.take 8).map btxt = x := ⟨_, rfl⟩
  have hTL2 : (ks.take k).map btxt = TL := by rw [← htk]; exact hTL
  have hTL3 : TL.length = k := by rw [← hTL2]; exact hlk k (Nat.le_refl _)
  rw [hTL, hTL3]
  have HTL := Lib.hid hTL2
  clear hTL hTL2 hTL3
  have HL := Lib.hid (And.intro hn0 (And.intro hK3 (And.intro hb0 (And.intro htk (And.intro hlk (And.intro hkn hk8))))))
  clear hn0 hK3 hb0 htk hlk q0 hK1 hK2 hk hn ht
  go_enter Tryz.func25, Tryz.ntmps25
  go_wp2_with fail
  go_loopg [7, 19] (k + 1) (fun gk s7 s19 wx => ∃ (i : Nat) (Av : Option Addr) (cv : Nat), s7 = .slice Av i cv ∧ s19 = .int .i64 i ∧ i ≤ k ∧ k - i < gk ∧ Hid (LInv stE 9 (fun g => w.heap.size ≤ g) W0 (.slice Av i cv) ((ks.take i).map btxt) wx))
  case atStart => exact ⟨0, none, 0, rfl, rfl, by omega, by omega, Lib.hid LInv.start⟩
  case round =>
    obtain ⟨i, Av, cv, rfl, rfl, hi, hgk, HI⟩ := hrel
    clear x0 x1 x2
    by_cases hlt : i < k
    · have hltz : (i : Int) < (k : Int) := by omega
      obtain ⟨gk', rfl⟩ : ∃ g', gk = g' + 1 := ⟨gk - 1, by omega⟩
      have HN := Lib.hid (And.intro (show i + 1 ≤ k from hlt) (show k - (i + 1) < gk' by omega))
      have hix : i < ks.length := by rw [HL.out.1]; have := HL.out.2.2.2.2.2.1; omega
      have hbw := below_then HL.out.2.2.1 HI.out.bel (Nat.le_refl _)
      obtain ⟨g, off, t1, A1, l1, k1, K1, m1, n1, rfl, e0, e1, e2, hn1⟩ := nd_cells HL.out.2.1 hbw i hix
      have hbx := below_new wr (.cells #[.int .u8 t1, .slice A1 l1 k1, .slice K1 m1 n1] 25)
      have hcall := bodyText_any B ks[i] _ _ _ _ (NdC.below hbx _ _ _ _ hn1)
      have hnx : (ks.take i).map btxt ++ [btxt ks[i]] = (ks.take (i + 1)).map btxt := by rw [List.take_succ_eq_append_getElem hix, List.map_append, List.map_cons, List.map_nil]
      have hlk := HL.out.2.2.2.2.1 i hi
      have hk8 := HL.out.2.2.2.2.2.2
      have HC := Lib.hid hcall
      have HB := Lib.hid hbx
      clear hcall hbx hn1 hgk hbw
      go_wp2_with fail
      refine HC.out.mono ?_
      rintro e w2 ⟨rfl, h5, hb2⟩
      have hb2 := below_then HB.out hb2 (Nat.le_refl _)
      rw [show strOfNums ks[i].body = btxt ks[i] from rfl] at h5 ⊢
      obtain ⟨s3, hs3⟩ : ∃ x, btxt ks[i] = x := ⟨_, rfl⟩
      rw [hs3] at h5 hnx ⊢
      obtain ⟨A7, c7, w7, hrun, hI7⟩ := HI.out.push Tryz.infS (fun g hg => Nat.le_trans HL.out.2.2.1.size hg) (below_then hb2 (below_new w2 (.cells #[.string s3] 9)) (Nat.le_refl _)) (x := s3) (news := [.string s3]) (⟨rfl, h5⟩) (g1 := w2.heap.size) hb2.size (heap_new_ _ _) (fun j u hu => by
        simpa using hu) (by rw [hlk]; omega) (by rw [hlk]; unfold maxLen; omega)
      rw [hlk] at hrun hI7
      rw [hnx] at hI7
      have HI7 := Lib.hid hI7
      clear hI7 hnx hlk hk8 e0 e1 e2 HC HB hb2 h5
      go_wp2_with (at_builtin; refine wpl_append rfl (.tmp 23) (.tmp 27) 33 rfl _ _ _ rfl rfl hrun ?_)
      clear hrun
      go_wp2
      go_roundg gk'
      case measure => omega
      case rel => exact ⟨i + 1, A7, c7, rfl, by go_num, HN.out.1, HN.out.2, HI7⟩
    · obtain rfl : k = i := by omega
      have hltz : ¬ (k : Int) < (k : Int) := by omega
      obtain ⟨A2, c2, e2, h1, h2, hLn⟩ := HI.out.row.lst (fun g hg => Nat.le_trans HL.out.2.2.1.size hg)
      have hlk := HL.out.2.2.2.2.1 k (Nat.le_refl _)
      rw [hlk] at e2 h1
      simp only [Value.slice.injEq] at e2
      obtain ⟨rfl, _, rfl⟩ := e2
      rw [HTL.out] at hLn
      have HF := Lib.hid (And.intro (below_then HL.out.2.2.1 HI.out.bel (Nat.le_refl _)) (And.intro h1 (And.intro h2 hLn)))
      clear h1 h2 hLn hgk hlk
      go_wp2
      go_ret
      exact ⟨HF.out.1, Av, cv, rfl, HF.out.2.1, HF.out.2.2.1, HF.out.2.2.2⟩
end Go.Proofs.YthcancakkkjpaaaGreatDoor.nmc
