/- The document's node of a principal; its Put and PutPrinc. -/
import Derived.Test.YthcancakkkjpaaaDoorRl
namespace Go.Proofs.YthcancakkkjpaaaDoor.nmc
open Go.RowKit Go.Proofs.YthcancakkkjpaaaDoor.tlvc Go.Proofs.YthcancakkkjpaaaDoor.tlvd Go.Proofs.YthcancakkkjpaaaDoor.ndc Go.Proofs.YthcancakkkjpaaaDoor.txc Go.Proofs.YthcancakkkjpaaaDoor.txm Go.Proofs.YthcancakkkjpaaaDoor.intc Go.Proofs.YthcancakkkjpaaaDoor.intm
set_option linter.unusedVariables false
set_option linter.unusedSimpArgs false
set_option maxRecDepth 100000 in
set_option maxHeartbeats 4000000 in
theorem rprincNode_any (B : Nat → Prop) (p : Pr) (c0 c1 : Value) (w : World) (hp : PrC B w p c0 c1) (h8 : p.names.length ≤ 1000) :
    Calls Tryd.prog 34 #[.agg #[c0, c1]] w (NVal (fun g => w.heap.size ≤ g) w (princN p)) := by
  obtain ⟨A, cap, rfl, rfl, hc, hm, hL, hs⟩ := hp
  have h9 : cap ≤ 9223372036854775807 := by unfold maxLen at hm; omega
  have hpn : princN p = .mk 48 [] [wordN p.realm, .mk 48 [] (p.names.map wordN)] := rfl
  obtain ⟨len, hlen⟩ : ∃ x, p.names.length = x := ⟨_, rfl⟩
  obtain ⟨s, hs0⟩ : ∃ x, p.realm = x := ⟨_, rfl⟩
  obtain ⟨xs, hxs⟩ : ∃ x, p.names = x := ⟨_, rfl⟩
  rw [hxs, hs0] at hpn
  rw [hxs] at hlen hL hc h8 ⊢
  rw [hs0] at hs ⊢
  rw [hpn]
  rw [hlen] at hc h8 ⊢
  obtain ⟨W0, hW0⟩ : ∃ x, (w.alloc (.cells #[.string s, .slice A len cap] 26)).alloc (.cells #[.int .u8 0, .slice none 0 0, .slice none 0 0] 31) = x := ⟨_, rfl⟩
  have hb0 : Below w.heap.size w W0 := by rw [← hW0]; exact (below_new _ _).alloc (by simp) _
  have p0 : W0.heap[w.heap.size + 1]? = some (.cells #[.int .u8 0, .slice none 0 0, .slice none 0 0] 31) := by rw [← hW0]; exact heap_is (by simp)
  have q0 : W0.heap[w.heap.size]? = some (.cells #[.string s, .slice A len cap] 26) := by rw [← hW0, heap_old_ _ _ (by simp)]; exact heap_new_ _ _
  have hz0 : W0.heap.size = w.heap.size + 2 := by rw [← hW0]; simp
  have hY : ∀ g, W0.heap.size ≤ g → w.heap.size + 2 ≤ g := fun g hg => by omega
  have b0 : W0.cell? ⟨w.heap.size, 0, none⟩ = some (.string s) := (Lib.cell_of_heap q0 _).trans rfl
  have b1 : W0.cell? ⟨w.heap.size, 1, none⟩ = some (.slice A len cap) := (Lib.cell_of_heap q0 _).trans rfl
  have hbx : ∀ W, Below W0.heap.size W0 W → W.cell? ⟨w.heap.size, 0, none⟩ = some (.string s) ∧ W.cell? ⟨w.heap.size, 1, none⟩ = some (.slice A len cap) ∧ Below w.heap.size w W ∧ W.heap[w.heap.size + 1]? = some (.cells #[.int .u8 0, .slice none 0 0, .slice none 0 0] 31) := fun W hW => ⟨cell_on hW b0, cell_on hW b1, below_then hb0 hW (Nat.le_refl _), (hW.block _ (by omega)).trans p0⟩
  have HX := Lib.hid hbx
  have HL := Lib.hid (And.intro hlen hL)
  have HY := Lib.hid (And.intro hY hz0)
  have HS := Lib.hid hs
  have hst : ∀ W, (w.alloc (.cells #[.string s, .slice A len cap] 26)).alloc (.cells #[.int .u8 0, .slice none 0 0, .slice none 0 0] 31) = W → W = W0 := fun W h => by rw [← h, hW0]
  clear hbx hlen hL hY hz0 hs p0 q0 hb0 hpn hs0 hxs hm b0 b1 hst
  go_enter Tryd.func34, Tryd.ntmps34
  go_wp2_with fail
  go_loopg [3, 4] (len + 1) (fun gk s3 s4 wx => ∃ (i : Nat) (Av : Option Addr) (cv : Nat), s3 = .slice Av i cv ∧ s4 = .int .i64 i ∧ i ≤ len ∧ len - i < gk ∧ Hid (LInv ndE 31 (fun g => w.heap.size + 2 ≤ g) W0 (.slice Av i cv) ((xs.take i).map wordN) wx))
  case atStart => exact ⟨0, none, 0, rfl, rfl, by omega, by omega, Lib.hid LInv.start⟩
  case round =>
    clear hW0
    obtain ⟨i, Av, cv, rfl, rfl, hi, hgk, HI⟩ := hrel
    obtain ⟨b0, b1, hBw, p1⟩ := HX.out wr HI.out.bel
    have HB := Lib.hid (And.intro hBw p1)
    clear hBw p1
    by_cases hlt : i < len
    · have hltz : (i : Int) < (len : Int) := by omega
      obtain ⟨gk', rfl⟩ : ∃ g', gk = g' + 1 := ⟨gk - 1, by omega⟩
      have HN := Lib.hid (And.intro (show i + 1 ≤ len from hlt) (show len - (i + 1) < gk' by omega))
      have hix : i < xs.length := by rw [HL.out.1]; exact hlt
      obtain ⟨g, off, cs, rfl, hg, hcell, hold⟩ := (HL.out.2.below HB.out.1).at i hix
      obtain ⟨rfl, hx5⟩ := hold
      have e0 := hcell 0 _ rfl
      rw [show stE.sz = 1 from rfl] at e0
      rw [Nat.add_zero, Nat.mul_one] at e0
      have htxt := rtext_any 27 xs[i] wr (by omega) hx5
      obtain ⟨n, hn⟩ : ∃ x, Nd.mk 27 (bytesI xs[i]) [] = x := ⟨_, rfl⟩
      rw [hn] at htxt
      have hlk : ((xs.take i).map wordN).length = i := by rw [List.length_map, List.length_take]; omega
      have hnx : (xs.take i).map wordN ++ [n] = (xs.take (i + 1)).map wordN := by rw [List.take_succ_eq_append_getElem hix, List.map_append, List.map_cons, List.map_nil, ← hn]; rfl
      obtain ⟨tx, htx⟩ : ∃ t, xs[i] = t := ⟨_, rfl⟩
      rw [htx] at e0 htxt
      have hfin : ∀ (w3 w5 : World) (g6 : Nat) (d0 d1 d2 : Value), Below wr.heap.size wr w3 → NdC (fun g => wr.heap.size ≤ g) w3 n d0 d1 d2 → Below w3.heap.size w3 w5 → wr.heap.size ≤ g6 → w5.heap[g6]? = some (.cells #[d0, d1, d2] 31) →
          ∃ A c w7, (Builtin.append_ #[29, 29] 29 #[.slice Av i cv, .slice (some ⟨g6, 0, none⟩) 1 1]).run Tryd.prog w5 = .ok (.slice A (i + 1) c) w7 ∧ LInv ndE 31 (fun g => w.heap.size + 2 ≤ g) W0 (.slice A (i + 1) c) ((xs.take (i + 1)).map wordN) w7 := fun w3 w5 g6 d0 d1 d2 h3 hn h5 hg6 hbox => by
        have hlo := HI.out.bel.size
        have hz0 := HY.out.2
        obtain ⟨A, c, w7, hr, hI⟩ := HI.out.push Tryd.infN HY.out.1 (below_then h3 h5 (Nat.le_refl _)) (x := n) (news := [d0, d1, d2]) ⟨d0, d1, d2, rfl, NdC.mono (fun g hg => ⟨by omega, .inr hg⟩) _ _ _ _ (NdC.below h5 _ _ _ _ hn)⟩ hg6 hbox (fun j u hu => by
          match j, hu with
          | 0, hu => exact hu
          | 1, hu => exact hu
          | 2, hu => exact hu
          | j + 3, hu => simp at hu) (by rw [hlk]; omega) (by rw [hlk]; unfold maxLen; omega)
        rw [hlk] at hr hI
        rw [hnx] at hI
        exact ⟨A, c, w7, hr, hI⟩
      have HF := Lib.hid hfin
      have HT := Lib.hid htxt
      clear hfin htxt hn hlk hnx hx5 hcell hgk htx
      go_wp2_with fail
      refine HT.out.mono ?_
      rintro e w3 ⟨hb3, t, A5, la5, ca5, K5, lk5, ck5, rfl, hn⟩
      obtain ⟨A7, c7, w7, hrun, hI7⟩ := HF.out w3 (w3.alloc (.cells #[.int .u8 t, .slice A5 la5 ca5, .slice K5 lk5 ck5] 31)) w3.heap.size _ _ _ hb3 hn (below_new _ _) hb3.size (heap_new_ _ _)
      have HI7 := Lib.hid hI7
      clear hI7 hb3 hn HT HF e0 b0 b1
      go_wp2_with (at_builtin; refine wpl_append rfl (.tmp 12) (.tmp 19) 29 rfl _ _ _ rfl rfl hrun ?_)
      clear hrun
      go_wp2
      go_roundg gk'
      case measure => omega
      case rel => exact ⟨i + 1, A7, c7, rfl, by go_num, HN.out.1, HN.out.2, HI7⟩
    · obtain rfl : len = i := by omega
      have hltz : ¬ (len : Int) < (len : Int) := by omega
      have hlk : ((xs.take len).map wordN).length = len := by rw [List.length_map, List.length_take]; have := HL.out.1; omega
      obtain ⟨A2, c2, e2, hc1, hc2, hLn⟩ := HI.out.row.lst HY.out.1
      rw [hlk] at e2 hc1
      simp only [Value.slice.injEq] at e2
      obtain ⟨rfl, _, rfl⟩ := e2
      have htxt := rtext_any 27 s wr (by omega) HS.out
      have hseq := fun W (hW : Below wr.heap.size wr W) => rseq_any (fun g => w.heap.size + 2 ≤ g) 48 Av len cv _ W (by omega) hlk hc1 hc2 (hLn.below hW)
      have hnm : (xs.take len).map wordN = xs.map wordN := by rw [List.take_of_length_le (by rw [HL.out.1]; omega)]
      rw [hnm] at hseq
      rw [show Nd.mk 27 (bytesI s) [] = wordN s from rfl] at htxt
      have HT := Lib.hid htxt
      have HQ := Lib.hid hseq
      have HZ := Lib.hid (show w.heap.size + 2 ≤ wr.heap.size by have := HI.out.bel.size; rw [HY.out.2] at this; exact this)
      clear htxt hseq hnm hLn hlk hc1 hc2 hgk
      go_wp2_with fail
      refine HT.out.mono ?_
      rintro e w2 ⟨hb2, t1, A1, l1, k1, K1, m1, n1, rfl, hn1⟩
      have HK := Lib.hid (HQ.out w2 hb2)
      have H1 := Lib.hid (And.intro hn1 hb2)
      clear hn1 hb2 HT HQ
      go_wp2_with fail
      refine HK.out.mono ?_
      rintro e w3 ⟨hb3, t2, A2, l2, k2, K2, m2, n2, rfl, hn2⟩
      obtain ⟨W4, hW4⟩ : ∃ x, w3.alloc (.cells #[.int .u8 t1, .slice A1 l1 k1, .slice K1 m1 n1, .int .u8 t2, .slice A2 l2 k2, .slice K2 m2 n2] 31) = x := ⟨_, rfl⟩
      have hb34 : Below w3.heap.size w3 W4 := by rw [← hW4]; exact below_new _ _
      have p4 : W4.heap[w3.heap.size]? = some (.cells #[.int .u8 t1, .slice A1 l1 k1, .slice K1 m1 n1, .int .u8 t2, .slice A2 l2 k2, .slice K2 m2 n2] 31) := by rw [← hW4]; exact heap_new_ _ _
      have z2 := H1.out.2.size
      have z3 := hb3.size
      have zw := HZ.out
      have hlast := rseq_any (fun g => w.heap.size + 2 ≤ g) 48 (some ⟨w3.heap.size, 0, none⟩) 2 2 [wordN s, .mk 48 [] (xs.map wordN)] W4 (by omega) rfl (Nat.le_refl _) (by unfold maxLen; decide)
        (two_nodes p4 (by omega) (NdC.mono (fun g hg => by omega) _ _ _ _ (NdC.below hb34 _ _ _ _ (NdC.below hb3 _ _ _ _ H1.out.1))) (NdC.below hb34 _ _ _ _ hn2))
      have HK2 := Lib.hid hlast
      have hB4 := below_then (below_then H1.out.2 hb3 (Nat.le_refl _)) hb34 (Nat.le_refl _)
      have H4 := Lib.hid (And.intro (below_then HB.out.1 hB4 (Nat.le_refl _)) ((hB4.block _ (by omega)).trans HB.out.2))
      clear hlast hB4 hb34 hb3 hn2 p4 z2 z3 zw HK H1
      go_wp2_with fail
      refine HK2.out.mono ?_
      rintro e w5 ⟨hb5, t, A5, la5, ca5, K5, lk5, ck5, rfl, hn⟩
      have p2 := (hb5.block _ (Array.getElem?_eq_some_iff.1 H4.out.2).1).trans H4.out.2
      obtain ⟨r0, r1, r2, hB⟩ := res3 (y0 := .int .u8 t) (y1 := .slice A5 la5 ca5) (y2 := .slice K5 lk5 ck5) (Nat.le_succ _) (below_then H4.out.1 hb5 (Nat.le_refl _)) p2
      have hn2 := res3_nd (b := w.heap.size + 1) (y0 := .int .u8 t) (y1 := .slice A5 la5 ca5) (y2 := .slice K5 lk5 ck5) (fun g hg => by omega) hn
      have f0 := Lib.frozen_of_heap p2 0
      have f1 := Lib.frozen_of_heap p2 1
      have f2 := Lib.frozen_of_heap p2 2
      have s0 := (Lib.cell_of_heap p2 0).trans rfl
      have s1 := (Lib.cell_of_heap p2 1).trans rfl
      have s2 := (Lib.cell_of_heap p2 2).trans rfl
      have HE := Lib.hid (And.intro hB (NdC.mono (B' := fun g => w.heap.size ≤ g) (fun g hg => by omega) _ _ _ _ hn2))
      clear hB hn hn2 p2 hb5 HK2 H4 b0 hW4
      go_wp2_with fail
      refine bodyPost_ret (v := .agg #[.int .u8 t, .slice A5 la5 ca5, .slice K5 lk5 ck5]) ?_ rfl ⟨HE.out.1, _, _, _, _, _, _, _, rfl, HE.out.2⟩
      simp [results, Tryd.results34, go_sem, r0, r1, r2]
theorem nameF_of (l : List At) : nameF l = if rightN l = true then some (nameN l) else none := rfl
set_option maxRecDepth 100000 in
set_option maxHeartbeats 4000000 in
theorem rput_any (B : Nat → Prop) (A : Option Addr) (len cap : Nat) (xs : List At) (w : World) (hl : xs.length = len) (hL : Lst atE B w A xs) (hc : len ≤ cap) (hm : cap ≤ maxLen) (hT : Tabs w) :
    Calls Tryd.prog 10 #[.slice A len cap] w (NPost0 (fun g => w.heap.size ≤ g) w (nameF xs)) := by
  obtain ⟨W0, hW0⟩ : ∃ x, w.alloc (.cells #[.int .u8 0, .slice none 0 0, .slice none 0 0] 31) = x := ⟨_, rfl⟩
  have hb0 : Below w.heap.size w W0 := by rw [← hW0]; exact below_new _ _
  have p0 : W0.heap[w.heap.size]? = some (.cells #[.int .u8 0, .slice none 0 0, .slice none 0 0] 31) := by rw [← hW0]; exact heap_new_ _ _
  have hz0 : W0.heap.size = w.heap.size + 1 := by rw [← hW0]; simp
  have hr := rright_any B A len cap xs W0 hl (hL.below hb0) hc hm (hT.below hb0)
  have hnd : rightN xs = true → ∀ W, Below W0.heap.size W0 W → Calls Tryd.prog 30 #[.slice A len cap] W (NVal (fun g => w.heap.size + 1 ≤ g) W (nameN xs)) := fun h W hW => by
    unfold rightN at h
    rw [Bool.and_eq_true, decide_eq_true_eq, List.all_eq_true] at h
    refine (rnode_any B A len cap xs W hl (hL.below (below_then hb0 hW (Nat.le_refl _))) hc hm (by omega) (fun a ha => ?_)).mono fun e w' h => NVal.mono (fun g hg => ?_) h
    · have := h.2 a ha
      unfold attrOK at this
      rw [Bool.and_eq_true, Bool.and_eq_true] at this
      exact this.1.1
    · have := hW.size
      omega
  rw [nameF_of]
  obtain ⟨r, hrr⟩ : ∃ x, rightN xs = x := ⟨_, rfl⟩
  obtain ⟨n, hn⟩ : ∃ x, nameN xs = x := ⟨_, rfl⟩
  rw [hrr] at hr hnd ⊢
  rw [hn] at hnd ⊢
  have HR := Lib.hid hr
  have HN := Lib.hid hnd
  have HB := Lib.hid (And.intro hb0 (And.intro p0 hz0))
  clear hr hnd hb0 p0 hz0 hrr hn hL hl hT
  go_enter Tryd.func10, Tryd.ntmps10
  go_wp2_with fail
  refine HR.out.mono ?_
  rintro e w1 ⟨rfl, hb1⟩
  have p1 := (hb1.block _ (by rw [HB.out.2.2]; omega)).trans HB.out.2.1
  have hB1 := below_then HB.out.1 hb1 (Nat.le_refl _)
  have h01 := hb1
  clear hb1
  cases r with
  | false =>
    obtain ⟨r0, r1, r2, hB⟩ := res3 (y0 := .int .u8 0) (y1 := .slice none 0 0) (y2 := .slice none 0 0) (Nat.le_refl _) hB1 p1
    have f0 := Lib.frozen_of_heap p1 0
    have f1 := Lib.frozen_of_heap p1 1
    have f2 := Lib.frozen_of_heap p1 2
    have s0 := (Lib.cell_of_heap p1 0).trans rfl
    have s1 := (Lib.cell_of_heap p1 1).trans rfl
    have s2 := (Lib.cell_of_heap p1 2).trans rfl
    have HE := Lib.hid hB
    clear hB hB1 p1 h01 HR HN HB
    go_wp2_with fail
    refine bodyPost_ret (v := .tuple #[.agg #[.int .u8 0, .slice none 0 0, .slice none 0 0], .int .i64 91]) ?_ rfl ⟨HE.out, rfl⟩
    simp [results, Tryd.results10, go_sem, r0, r1, r2]
  | true =>
    have hcall := HN.out rfl w1 h01
    have HC := Lib.hid hcall
    have H1 := Lib.hid (And.intro hB1 p1)
    have hz := HB.out.2.2
    clear hcall hB1 p1 h01 HR HN HB
    go_wp2_with fail
    refine HC.out.mono ?_
    rintro e w3 ⟨hb3, t, A5, la5, ca5, K5, lk5, ck5, rfl, hn⟩
    have p3 := (hb3.block _ (Array.getElem?_eq_some_iff.1 H1.out.2).1).trans H1.out.2
    obtain ⟨r0, r1, r2, hB⟩ := res3 (y0 := .int .u8 t) (y1 := .slice A5 la5 ca5) (y2 := .slice K5 lk5 ck5) (Nat.le_refl _) (below_then H1.out.1 hb3 (Nat.le_refl _)) p3
    have hn2 := res3_nd (b := w.heap.size) (y0 := .int .u8 t) (y1 := .slice A5 la5 ca5) (y2 := .slice K5 lk5 ck5) (fun g hg => by omega) hn
    have f0 := Lib.frozen_of_heap p3 0
    have f1 := Lib.frozen_of_heap p3 1
    have f2 := Lib.frozen_of_heap p3 2
    have s0 := (Lib.cell_of_heap p3 0).trans rfl
    have s1 := (Lib.cell_of_heap p3 1).trans rfl
    have s2 := (Lib.cell_of_heap p3 2).trans rfl
    have HE := Lib.hid (And.intro hB (NdC.mono (B' := fun g => w.heap.size ≤ g) (fun g hg => by omega) _ _ _ _ hn2))
    clear hB hn hn2 p3 hb3 HC H1
    go_wp2_with fail
    refine bodyPost_ret (v := .tuple #[.agg #[.int .u8 t, .slice A5 la5 ca5, .slice K5 lk5 ck5], .int .i64 0]) ?_ rfl ⟨HE.out.1, _, _, _, _, _, _, _, rfl, HE.out.2⟩
    simp [results, Tryd.results10, go_sem, r0, r1, r2]
theorem PrC.below {B : Nat → Prop} {w w' : World} {p : Pr} {c0 c1 : Value} (h : PrC B w p c0 c1) (hb : Below w.heap.size w w') : PrC B w' p c0 c1 := by
  obtain ⟨A, c, h0, h1, h2, h3, h4, h5⟩ := h
  exact ⟨A, c, h0, h1, h2, h3, h4.below hb, h5⟩
theorem princF_of (p : Pr) : princF p = if rightP p = true then some (princN p) else none := rfl
set_option maxRecDepth 100000 in
set_option maxHeartbeats 4000000 in
theorem rputPrinc_any (B : Nat → Prop) (p : Pr) (c0 c1 : Value) (w : World) (hp : PrC B w p c0 c1) (hT : Tabs w) :
    Calls Tryd.prog 12 #[.agg #[c0, c1]] w (NPost0 (fun g => w.heap.size ≤ g) w (princF p)) := by
  have hpc := hp
  obtain ⟨A, cap, rfl, rfl, _⟩ := hp
  obtain ⟨len, hlen⟩ : ∃ x, p.names.length = x := ⟨_, rfl⟩
  obtain ⟨s, hs0⟩ : ∃ x, p.realm = x := ⟨_, rfl⟩
  rw [hlen, hs0] at hpc ⊢
  obtain ⟨W0, hW0⟩ : ∃ x, (w.alloc (.cells #[.string s, .slice A len cap] 26)).alloc (.cells #[.int .u8 0, .slice none 0 0, .slice none 0 0] 31) = x := ⟨_, rfl⟩
  have hb0 : Below w.heap.size w W0 := by rw [← hW0]; exact (below_new _ _).alloc (by simp) _
  have p0 : W0.heap[w.heap.size + 1]? = some (.cells #[.int .u8 0, .slice none 0 0, .slice none 0 0] 31) := by rw [← hW0]; exact heap_is (by simp)
  have q0 : W0.heap[w.heap.size]? = some (.cells #[.string s, .slice A len cap] 26) := by rw [← hW0, heap_old_ _ _ (by simp)]; exact heap_new_ _ _
  have hz0 : W0.heap.size = w.heap.size + 2 := by rw [← hW0]; simp
  have b0 : W0.cell? ⟨w.heap.size, 0, none⟩ = some (.string s) := (Lib.cell_of_heap q0 _).trans rfl
  have b1 : W0.cell? ⟨w.heap.size, 1, none⟩ = some (.slice A len cap) := (Lib.cell_of_heap q0 _).trans rfl
  have hr := rrightP_any B p _ _ W0 (hpc.below hb0) (hT.below hb0)
  have hnd : rightP p = true → ∀ W, Below W0.heap.size W0 W → Calls Tryd.prog 34 #[.agg #[.string s, .slice A len cap]] W (NVal (fun g => w.heap.size + 2 ≤ g) W (princN p)) := fun h W hW => by
    unfold rightP at h
    rw [Bool.and_eq_true, Bool.and_eq_true, Bool.and_eq_true, decide_eq_true_eq, decide_eq_true_eq] at h
    refine (rprincNode_any B p _ _ W (hpc.below (below_then hb0 hW (Nat.le_refl _))) (by omega)).mono fun e w' h => NVal.mono (fun g hg => ?_) h
    have := hW.size
    omega
  have HX := Lib.hid (fun W (hW : Below W0.heap.size W0 W) => (⟨cell_on hW b0, cell_on hW b1⟩ : W.cell? ⟨w.heap.size, 0, none⟩ = some (.string s) ∧ W.cell? ⟨w.heap.size, 1, none⟩ = some (.slice A len cap)))
  rw [princF_of]
  obtain ⟨r, hrr⟩ : ∃ x, rightP p = x := ⟨_, rfl⟩
  obtain ⟨n, hn⟩ : ∃ x, princN p = x := ⟨_, rfl⟩
  rw [hrr] at hr hnd ⊢
  rw [hn] at hnd ⊢
  have HR := Lib.hid hr
  have HN := Lib.hid hnd
  have HB := Lib.hid (And.intro hb0 (And.intro p0 hz0))
  clear hr hnd hb0 p0 hz0 hrr hn q0 hpc hT hlen hs0
  go_enter Tryd.func12, Tryd.ntmps12
  go_wp2_with fail
  refine HR.out.mono ?_
  rintro e w1 ⟨rfl, hb1⟩
  have p1 := (hb1.block _ (by rw [HB.out.2.2]; omega)).trans HB.out.2.1
  have hB1 := below_then HB.out.1 hb1 (Nat.le_refl _)
  have h01 := hb1
  clear hb1
  cases r with
  | false =>
    obtain ⟨r0, r1, r2, hB⟩ := res3 (y0 := .int .u8 0) (y1 := .slice none 0 0) (y2 := .slice none 0 0) (Nat.le_succ _) hB1 p1
    have f0 := Lib.frozen_of_heap p1 0
    have f1 := Lib.frozen_of_heap p1 1
    have f2 := Lib.frozen_of_heap p1 2
    have s0 := (Lib.cell_of_heap p1 0).trans rfl
    have s1 := (Lib.cell_of_heap p1 1).trans rfl
    have s2 := (Lib.cell_of_heap p1 2).trans rfl
    have HE := Lib.hid hB
    clear hB hB1 p1 h01 HR HN HB
    go_wp2_with fail
    refine bodyPost_ret (v := .tuple #[.agg #[.int .u8 0, .slice none 0 0, .slice none 0 0], .int .i64 91]) ?_ rfl ⟨HE.out, rfl⟩
    simp [results, Tryd.results12, go_sem, r0, r1, r2]
  | true =>
    have hcall := HN.out rfl w1 h01
    have HC := Lib.hid hcall
    have H1 := Lib.hid (And.intro hB1 p1)
    have hz := HB.out.2.2
    obtain ⟨b0, b1⟩ := HX.out w1 h01
    clear HX
    clear hcall hB1 p1 h01 HR HN HB
    go_wp2_with fail
    refine HC.out.mono ?_
    rintro e w3 ⟨hb3, t, A5, la5, ca5, K5, lk5, ck5, rfl, hn⟩
    have p3 := (hb3.block _ (Array.getElem?_eq_some_iff.1 H1.out.2).1).trans H1.out.2
    obtain ⟨r0, r1, r2, hB⟩ := res3 (y0 := .int .u8 t) (y1 := .slice A5 la5 ca5) (y2 := .slice K5 lk5 ck5) (Nat.le_succ _) (below_then H1.out.1 hb3 (Nat.le_refl _)) p3
    have hn2 := res3_nd (b := w.heap.size + 1) (y0 := .int .u8 t) (y1 := .slice A5 la5 ca5) (y2 := .slice K5 lk5 ck5) (fun g hg => by omega) hn
    have f0 := Lib.frozen_of_heap p3 0
    have f1 := Lib.frozen_of_heap p3 1
    have f2 := Lib.frozen_of_heap p3 2
    have s0 := (Lib.cell_of_heap p3 0).trans rfl
    have s1 := (Lib.cell_of_heap p3 1).trans rfl
    have s2 := (Lib.cell_of_heap p3 2).trans rfl
    have HE := Lib.hid (And.intro hB (NdC.mono (B' := fun g => w.heap.size ≤ g) (fun g hg => by omega) _ _ _ _ hn2))
    clear hB hn hn2 p3 hb3 HC H1
    go_wp2_with fail
    refine bodyPost_ret (v := .tuple #[.agg #[.int .u8 t, .slice A5 la5 ca5, .slice K5 lk5 ck5], .int .i64 0]) ?_ rfl ⟨HE.out.1, _, _, _, _, _, _, _, rfl, HE.out.2⟩
    simp [results, Tryd.results12, go_sem, r0, r1, r2]
end Go.Proofs.YthcancakkkjpaaaDoor.nmc
