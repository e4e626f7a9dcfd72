/- A list of nodes that grows node by node. The document's ext  -/
import Derived.Test.YtdcpggodlggjjaaGreatDoorBa
set_option maxRecDepth 100000
set_option maxHeartbeats 8000000
set_option linter.unusedVariables false
set_option linter.unusedSimpArgs false
namespace Go.Proofs.YtdcpggodlggjjaaGreatDoor.nmc
open Go.RowKit tlvc tlvd ndc txc txm intc intm
section
variable {Y : Nat → Prop} {W0 wx w3 : World} {v : Value} {xs : List Nd} {n : Nd} {c0 c1 c2 : Value}
theorem LInv.node (h : LInv ndE 33 Y W0 v xs wx) (hY : ∀ g, W0.heap.size ≤ g → Y g) (h3 : Below wx.heap.size wx w3) (hn : NdC (fun g => wx.heap.size ≤ g) w3 n c0 c1 c2) (hs : xs.length ≤ 100000) :
 ∃ A c w7, (Builtin.append_ #[31, 31] 31 #[v, .slice (some ⟨w3.heap.size, 0, none⟩) 1 1]).run Tryz.prog (w3.alloc (.cells #[c0, c1, c2] 33)) = .ok (.slice A (xs.length + 1) c) w7 ∧ LInv ndE 33 Y W0 (.slice A (xs.length + 1) c) (xs ++ [n]) w7 := by
 have hlo := h.bel.size
 exact h.push Tryz.infN hY (below_then h3 (below_new w3 (.cells #[c0, c1, c2] 33)) (lr_ _)) (x := n) (news := [c0, c1, c2]) ⟨c0, c1, c2, rfl, NdC.mono (fun g hg => ⟨hY g (by omega), .inr hg⟩) _ _ _ _ (NdC.below (below_new _ _) _ _ _ _ hn)⟩ h3.size (heap_new_ _ _) (fun j u hu => by
  match j, hu with
  | 0, hu => exact hu
  | 1, hu => exact hu
  | 2, hu => exact hu
  | j + 3, hu => simp at hu) (by omega) (by unfold maxLen; omega)
theorem LInv.lit (hY : ∀ g, W0.heap.size ≤ g → Y g) (h3 : Below W0.heap.size W0 w3) (hn : NdC (fun g => W0.heap.size ≤ g) w3 n c0 c1 c2) :
 LInv ndE 33 Y W0 (.slice (some ⟨w3.heap.size, 0, none⟩) 1 1) [n] (w3.alloc (.cells #[c0, c1, c2] 33)) := by
 obtain ⟨t, A, l, c, K, m, k, rfl, rfl, rfl⟩ := hn.shape
 refine ⟨below_then h3 (below_new _ _) (lr_ _), [_, _, _], World.ownsRow_lit w3 #[.int .u8 t, .slice A l c, .slice K m k] 1 h3.size (by unfold maxLen; omega) rfl, All.one_ (E := ndE) ⟨_, _, _, rfl, ?_⟩⟩
 have hb := NdC.below (below_new w3 (.cells #[.int .u8 t, .slice A l c, .slice K m k] 33)) _ _ _ _ (NdC.bound _ _ _ _ hn)
 exact NdC.mono (fun g hg => ⟨hY g hg.1, by simp; omega, fun e => by
  have e : some g = some w3.heap.size := e
  cases e
  exact absurd hg.2 (by omega)⟩) _ _ _ _ hb
end
def NLVal (w : World) (ks : List Nd) (e : Ending) (w' : World) : Prop :=
 Below w.heap.size w w' ∧ ∃ A c, e = .returned (.slice A ks.length c) ∧ ks.length ≤ c ∧ c ≤ maxLen ∧ Lst ndE (fun g => w.heap.size ≤ g) w' A ks
theorem rext_any (A : Option Addr) (n c : Nat) (B : Option Addr) (m d : Nat) (cr : Bool) (xs ys : List Int) (w : World) (ho : objB xs = true) (hx : Ins w A n xs) (hc : n ≤ c) (hm : c ≤ maxLen) (hy : Bys w B m ys) (hd : m ≤ d) (hm2 : d ≤ maxLen) (hf : m ≤ 140737488351232) :
 Calls Tryz.prog 84 #[.slice A n c, .bool cr, .slice B m d] w (NVal (fun g => w.heap.size ≤ g) w (extF ⟨xs, cr, ys⟩)) := by
 obtain ⟨W0, hW0⟩ := nm_ (w.alloc (.cells #[.int .u8 0, .slice none 0 0, .slice none 0 0] 33))
 have hb0 : Below w.heap.size w W0 := by rw [← hW0]; exact below_new _ _
 have p0 : W0.heap[w.heap.size]? = some (.cells #[.int .u8 0, .slice none 0 0, .slice none 0 0] 33) := by rw [← hW0]; exact heap_new_ _ _
 have hz0 : W0.heap.size = w.heap.size + 1 := by rw [← hW0]; simp
 have he : extF ⟨xs, cr, ys⟩ = .mk 48 [] (([.mk 6 (encO xs) []] ++ onlyL cr (.mk 1 (boolB true) [])) ++ [.mk 4 ys []]) := by
  unfold extF
  rw [oidN_of ho]
  cases cr <;> rfl
 rw [he]
 have HO := hd_ (roid_any A n c xs W0 ho (hx.below hb0) hc hm)
 have HT := hd_ (fun W => rtruth_any true W)
 have HQ := hd_ (fun W (hW : Below W0.heap.size W0 W) => roctets_any B m d ys W (hy.below (below_then hb0 hW (lr_ _))) hd hm2 hf)
 have HB := hd_ (ai_ hb0 (ai_ p0 hz0))
 obtain ⟨n1, hn1⟩ := nm_ (Nd.mk 6 (encO xs) [])
 obtain ⟨n2, hn2⟩ := nm_ (Nd.mk 1 (boolB true) [])
 obtain ⟨n3, hn3⟩ := nm_ (Nd.mk 4 ys [])
 rw [hn1] at HO ⊢
 rw [hn3] at HQ ⊢
 rw [hn2] at HT ⊢
 clear hn1 hn2 hn3 he hb0 p0 hz0 hx hy ho hm hm2 hf hc hd
 go_enter Tryz.func84, Tryz.ntmps84
 go_wp2_with fail
 refine HO.out.mono ?_
 rintro e w1 ⟨hb1, t1, A1, l1, k1, K1, m1, j1, rfl, hd1⟩
 have hL := LInv.lit (Y := fun g => W0.heap.size ≤ g) (W0 := W0) (fun g h => h) hb1 hd1
 obtain ⟨W1, hW1⟩ := nm_ (w1.alloc (.cells #[.int .u8 t1, .slice A1 l1 k1, .slice K1 m1 j1] 33))
 rw [hW1] at hL
 have HL := hd_ hL
 clear hL hb1 hd1 HO
 go_upto_if 11 with fail
 go_cut [7] (fun s7 wx => ∃ (A7 : Option Addr) (k7 c7 : Nat), s7 = .slice A7 k7 c7 ∧ Hid (([n1] ++ onlyL cr n2).length = k7 ∧ LInv ndE 33 (fun g => W0.heap.size ≤ g) W0 (.slice A7 k7 c7) ([n1] ++ onlyL cr n2) wx))
 case first =>
  cases cr
  ·have hfin := hd_ (show ([n1] ++ onlyL false n2).length = 1 ∧ LInv ndE 33 (fun g => W0.heap.size ≤ g) W0 (.slice (some ⟨w1.heap.size, 0, none⟩) 1 1) ([n1] ++ onlyL false n2) W1 from ⟨rfl, HL.out⟩)
   (try simp only [hW1])
   go_wp2_with fail
   go_meet
   exact ⟨_, _, _, rfl, hfin⟩
  ·(try simp only [hW1])
   have HT1 := hd_ (HT.out W1)
   go_wp2_with fail
   (try simp only [hW1])
   refine HT1.out.mono ?_
   rintro e w2 ⟨hb2, t2, A2, l2, k2, K2, m2, j2, rfl, hd2⟩
   obtain ⟨A7, c7, w7, hrun, hL7⟩ := HL.out.node (fun g h => h) hb2 hd2 (by simp)
   have hfin := hd_ (show ([n1] ++ onlyL true n2).length = 2 ∧ LInv ndE 33 (fun g => W0.heap.size ≤ g) W0 (.slice A7 2 c7) ([n1] ++ onlyL true n2) w7 from ⟨rfl, hL7⟩)
   have hrun : (Builtin.append_ #[31, 31] 31 #[.slice (some ⟨w1.heap.size, 0, none⟩) 1 1, .slice (some ⟨w2.heap.size, 0, none⟩) 1 1]).run Tryz.prog (w2.alloc (.cells #[.int .u8 t2, .slice A2 l2 k2, .slice K2 m2 j2] 33)) = .ok (.slice A7 2 c7) w7 := hrun
   clear hL7 hb2 hd2 HT1 HL
   go_wp2_with (at_builtin; refine wpl_append rfl (.tmp 12) (.tmp 14) 31 rfl _ _ _ rfl rfl hrun ?_)
   clear hrun
   go_wp2_with fail
   go_meet
   exact ⟨_, _, _, rfl, hfin⟩
 case rest =>
  obtain ⟨A7, k7, c7, rfl, H7⟩ := hcut
  have HQ4 := hd_ (HQ.out _ H7.out.2.bel)
  go_wp2_with fail
  refine HQ4.out.mono ?_
  rintro e w3 ⟨hb3, t3, A3, l3, k3, K3, m3, j3, rfl, hd3⟩
  have hlen7 : ([n1] ++ onlyL cr n2).length ≤ 100000 := by cases cr <;> (simp [onlyL])
  obtain ⟨A8, c8, w8, hrun, hL8⟩ := H7.out.2.node (fun g h => h) hb3 hd3 hlen7
  rw [H7.out.1] at hrun hL8
  obtain ⟨A9, c9, e9, hc1, hc2, hLs⟩ := hL8.row.lst (fun g h => h)
  have hln : (([n1] ++ onlyL cr n2) ++ [n3]).length = k7 + 1 := by rw [List.length_append, H7.out.1]; rfl
  rw [hln] at e9 hc1
  simp only [Value.slice.injEq] at e9
  obtain ⟨rfl, _, rfl⟩ := e9
  have hcall := rseq_any (fun g => W0.heap.size ≤ g) 48 A8 (k7 + 1) c8 _ w8 (by omega) hln hc1 hc2 hLs
  have HC := hd_ hcall
  have HW := hd_ (ai_ (below_then HB.out.1 hL8.bel (lr_ _)) ((hL8.bel.block _ (by rw [HB.out.2.2]; omega)).trans HB.out.2.1))
  clear hL8 hLs hcall hb3 hd3 hlen7 HQ4 H7 hln
  go_wp2_with (at_builtin; refine wpl_append rfl (.tmp 16) (.tmp 19) 31 rfl _ _ _ rfl rfl hrun ?_)
  clear hrun
  go_wp2_with fail
  refine HC.out.mono ?_
  rintro e w2 ⟨hb2, t, A5, la5, ca5, K5, lk5, ck5, rfl, hn⟩
  have hz := HB.out.2.2
  have p2 := (hb2.block _ (Array.getElem?_eq_some_iff.1 HW.out.2).1).trans HW.out.2
  obtain ⟨r0, r1, r2, hB⟩ := res3 (y0 := .int .u8 t) (y1 := .slice A5 la5 ca5) (y2 := .slice K5 lk5 ck5) (lr_ _) (below_then HW.out.1 hb2 (lr_ _)) p2
  have hn2 := res3_nd (b := w.heap.size) (y0 := .int .u8 t) (y1 := .slice A5 la5 ca5) (y2 := .slice K5 lk5 ck5) (fun g hg => by omega) hn
  have f0 := fh_ p2 0
  have f1 := fh_ p2 1
  have f2 := fh_ p2 2
  have s0 := (ch_ p2 0).trans rfl
  have s1 := (ch_ p2 1).trans rfl
  have s2 := (ch_ p2 2).trans rfl
  have HE := hd_ (ai_ hB (NdC.mono (B' := fun g => w.heap.size ≤ g) (fun g hg => by omega) _ _ _ _ hn2))
  clear hB hn hn2 p2 hb2 HC HW hz
  go_wp2_with fail
  refine bodyPost_ret (v := .agg #[.int .u8 t, .slice A5 la5 ca5, .slice K5 lk5 ck5]) ?_ rfl ⟨HE.out.1, _, _, _, _, _, _, _, rfl, HE.out.2⟩
  simp [results, Tryz.results84, go_sem, r0, r1, r2]
theorem rspace_any (B : Nat → Prop) (A : Option Addr) (n c : Nat) (xs : List (List At)) (w : World) (hl : xs.length = n) (hL : Lst nmE B w A xs) (hc : n ≤ c) (hm : c ≤ maxLen) (h16 : n ≤ 16) (hok : ∀ y ∈ xs, rightN y = true) :
 Calls Tryz.prog 91 #[.slice A n c] w (NLVal w (xs.map nameZ)) := by
 have h9 : c ≤ 9223372036854775807 := by unfold maxLen at hm; omega
 have HL := hd_ (ai_ hl (ai_ hL hok))
 clear hl hL hm hok
 go_enter Tryz.func91, Tryz.ntmps91
 go_wp2_with fail
 go_loopg [3, 4] (n + 1) (fun gk s3 s4 wx => ∃ (i : Nat) (Av : Option Addr) (cv : Nat), s3 = .slice Av i cv ∧ s4 = .int .i64 i ∧ i ≤ n ∧ n - i < gk ∧ Hid (LInv ndE 33 (fun g => w.heap.size ≤ g) w (.slice Av i cv) ((xs.take i).map nameZ) wx))
 case atStart => exact ⟨0, none, 0, rfl, rfl, by omega, by omega, hd_ LInv.start⟩
 case round =>
  obtain ⟨i, Av, cv, rfl, rfl, hi, hgk, HI⟩ := hrel
  have hlk : ((xs.take i).map nameZ).length = i := by rw [List.length_map, List.length_take]; have := HL.out.1; omega
  by_cases hlt : i < n
  ·have hltz : (i : Int) < (n : Int) := by omega
   obtain ⟨gk', rfl⟩ : ∃ g', gk = g' + 1 := ⟨gk - 1, by omega⟩
   have HN := hd_ (ai_ (show i + 1 ≤ n from hlt) (show n - (i + 1) < gk' by omega))
   have hix : i < xs.length := by rw [HL.out.1]; exact hlt
   obtain ⟨g, off, cs, rfl, hg, hcell, hold⟩ := (HL.out.2.1.below HI.out.bel).at i hix
   obtain ⟨e0, rfl, a, ca, rfl, h1, h2, h3⟩ := hold
   have hr := HL.out.2.2 xs[i] (List.getElem_mem hix)
   have hnx : (xs.take i).map nameZ ++ [nameZ xs[i]] = (xs.take (i + 1)).map nameZ := by rw [List.take_succ_eq_append_getElem hix, List.map_append, List.map_cons, List.map_nil]
   obtain ⟨y, hy⟩ := nm_ (xs[i])
   rw [hy] at hr hnx h1 h3 hcell
   clear hy
   have h8 := (rightN_iff y).1 hr
   have hz : nameZ y = nameN y := by unfold nameZ; rw [if_pos hr]
   rw [hz] at hnx
   have hC := rnode_any B a y.length ca y wr rfl h3 h1 h2 (by omega) (fun b hb => ((attrOK_iff b).1 (h8.2 b hb)).1)
   obtain ⟨nd, hnd⟩ := nm_ (nameN y)
   rw [hnd] at hC hnx
   obtain ⟨ly, hly⟩ := nm_ (y.length)
   rw [hly] at hC hcell
   have x0 := hcell 0 _ rfl
   rw [show nmE.sz = 1 from rfl] at x0
   simp only [Nat.add_zero, Nat.mul_one] at x0
   have HC := hd_ hC
   have HX := hd_ (ai_ hlk hnx)
   have i1 : (0 : Int) ≤ (i : Int) := by omega
   clear hC hlk hnx hr h8 hz hnd hly h1 h2 h3 hcell hgk
   go_wp2_with fail
   refine HC.out.mono ?_
   rintro e w3 ⟨hb3, t3, A3, l3, k3, K3, m3, j3, rfl, hd3⟩
   obtain ⟨A7, c7, w7, hrun, hL7⟩ := HI.out.node (fun g h => h) hb3 hd3 (by rw [HX.out.1]; omega)
   rw [HX.out.1] at hrun hL7
   rw [HX.out.2] at hL7
   have H7 := hd_ hL7
   clear hL7 hb3 hd3 HC HI x0
   go_wp2_with (at_builtin; refine wpl_append rfl (.tmp 11) (.tmp 17) 31 rfl _ _ _ rfl rfl hrun ?_)
   clear hrun
   go_wp2
   go_roundg gk'
   case measure => omega
   case rel => exact ⟨i + 1, A7, c7, rfl, by go_num, HN.out.1, HN.out.2, H7⟩
  ·obtain rfl : n = i := by omega
   have hltz : ¬ (n : Int) < (n : Int) := by omega
   have htk : (xs.take n).map nameZ = xs.map nameZ := by rw [List.take_of_length_le (Nat.le_of_eq HL.out.1)]
   have HI2 := HI
   rw [htk] at HI2
   rw [htk] at hlk
   have HE := hd_ (ai_ hlk HI2.out)
   clear hlk HI2 htk HI hgk
   go_wp2
   go_ret
   obtain ⟨A2, c2, e2, hc1, hc2, hLs⟩ := HE.out.2.row.lst (fun g h => h)
   rw [HE.out.1] at e2 hc1
   simp only [Value.slice.injEq] at e2
   obtain ⟨rfl, _, rfl⟩ := e2
   exact ⟨HE.out.2.bel, Av, cv, (by rw [HE.out.1]; rfl), by rw [HE.out.1]; exact hc1, hc2, hLs⟩
end Go.Proofs.YtdcpggodlggjjaaGreatDoor.nmc
