/- The document's leaves of extensions: nodes of a truth, a num -/
import Derived.Test.YtdcpggodlggjjaaGreatDoorAd
import Derived.Test.YtdcpggodlggjjaaGreatDoorYd
import Derived.Test.YtdcpggodlggjjaaGreatDoorYf
import Derived.Test.YtdcpggodlggjjaaGreatDoorPc
set_option maxRecDepth 100000
set_option maxHeartbeats 8000000
set_option linter.unusedVariables false
set_option linter.unusedSimpArgs false
namespace Go.Proofs.YtdcpggodlggjjaaGreatDoor.nmc
open Go.RowKit tlvc tlvd ndc txc txm intc intm
def BVal (w : World) (b : List Int) (e : Ending) (w' : World) : Prop :=
 Below w.heap.size w w' ∧ ∃ A c, e = .returned (.slice A b.length c) ∧ Bys w' A b.length b ∧ b.length ≤ c ∧ c ≤ maxLen ∧ ∀ g off sp, A = some ⟨g, off, sp⟩ → w.heap.size ≤ g
theorem rtruth_any (b : Bool) (w : World) :
 Calls Tryz.prog 82 #[.bool b] w (NVal (fun g => w.heap.size ≤ g) w (.mk 1 (boolB b) [])) := by
 obtain ⟨W0, hW0⟩ := nm_ (w.alloc (.cells #[.int .u8 0, .slice none 0 0, .slice none 0 0] 33))
 have hb0 : Below w.heap.size w W0 := by rw [← hW0]; exact below_new _ _
 have p0 : W0.heap[w.heap.size]? = some (.cells #[.int .u8 0, .slice none 0 0, .slice none 0 0] 33) := by rw [← hW0]; exact heap_new_ _ _
 have hz0 : W0.heap.size = w.heap.size + 1 := by rw [← hW0]; simp
 have hput := refPutBool_any b W0
 have HC := hd_ hput
 have HB := hd_ (ai_ hb0 (ai_ p0 hz0))
 obtain ⟨ys, hys⟩ := nm_ (boolB b)
 rw [hys] at HC ⊢
 clear hput hb0 p0 hz0 hys
 go_enter Tryz.func82, Tryz.ntmps82
 go_wp2_with fail
 refine HC.out.mono ?_
 rintro e w1 ⟨A1, c1, rfl, hh, hb1⟩
 have hz := HB.out.2.2
 have p1 := (hb1.block w.heap.size (by omega)).trans HB.out.2.1
 have hB1 := below_then HB.out.1 hb1 (lr_ _)
 have hnd : NdC (fun g => w.heap.size < g) w1 (.mk 1 ys []) (.int .u8 1) (.slice A1 ys.length c1) (.slice none 0 0) := ndC_leaf (by omega) hh.2.1 hh.2.2.1 hh.1 (fun hn g off sp e => by
  obtain ⟨b', off', e', hb', _⟩ := hh.1.2.2 hn
  have := hh.2.2.2 b' off' e'
  rw [e'] at e; cases e; omega)
 obtain ⟨r0, r1, r2, hB⟩ := res3 (y0 := .int .u8 1) (y1 := .slice A1 ys.length c1) (y2 := .slice none 0 0) (lr_ _) hB1 p1
 have hn2 := res3_nd (b := w.heap.size) (y0 := .int .u8 1) (y1 := .slice A1 ys.length c1) (y2 := .slice none 0 0) (fun g hg => by omega) hnd
 have f0 := fh_ p1 0
 have f1 := fh_ p1 1
 have f2 := fh_ p1 2
 have s0 := (ch_ p1 0).trans rfl
 have s1 := (ch_ p1 1).trans rfl
 have s2 := (ch_ p1 2).trans rfl
 have HE := hd_ (ai_ hB (NdC.mono (B' := fun g => w.heap.size ≤ g) (fun g hg => by omega) _ _ _ _ hn2))
 clear hB hn2 hnd p1 hB1 hh hb1 HC HB hz
 go_wp2_with fail
 refine bodyPost_ret (v := .agg #[.int .u8 1, .slice A1 ys.length c1, .slice none 0 0]) ?_ rfl ⟨HE.out.1, _, _, _, _, _, _, _, rfl, HE.out.2⟩
 simp [results, Tryz.results82, go_sem, r0, r1, r2]
theorem rint_any (n : Int) (w : World) (hn : I64 n) :
 Calls Tryz.prog 83 #[.int .i64 n] w (NVal (fun g => w.heap.size ≤ g) w (.mk 2 (putI n) [])) := by
 obtain ⟨W0, hW0⟩ := nm_ (w.alloc (.cells #[.int .u8 0, .slice none 0 0, .slice none 0 0] 33))
 have hb0 : Below w.heap.size w W0 := by rw [← hW0]; exact below_new _ _
 have p0 : W0.heap[w.heap.size]? = some (.cells #[.int .u8 0, .slice none 0 0, .slice none 0 0] 33) := by rw [← hW0]; exact heap_new_ _ _
 have hz0 : W0.heap.size = w.heap.size + 1 := by rw [← hW0]; simp
 have hput := refPutInt_any n W0 hn
 have HC := hd_ hput
 have HB := hd_ (ai_ hb0 (ai_ p0 hz0))
 obtain ⟨ys, hys⟩ := nm_ (putI n)
 rw [hys] at HC ⊢
 clear hput hb0 p0 hz0 hys
 go_enter Tryz.func83, Tryz.ntmps83
 go_wp2_with fail
 refine HC.out.mono ?_
 rintro e w1 ⟨A1, c1, rfl, hh, hb1⟩
 have hz := HB.out.2.2
 have p1 := (hb1.block w.heap.size (by omega)).trans HB.out.2.1
 have hB1 := below_then HB.out.1 hb1 (lr_ _)
 have hnd : NdC (fun g => w.heap.size < g) w1 (.mk 2 ys []) (.int .u8 2) (.slice A1 ys.length c1) (.slice none 0 0) := ndC_leaf (by omega) hh.2.1 hh.2.2.1 hh.1 (fun hn g off sp e => by
  obtain ⟨b', off', e', hb', _⟩ := hh.1.2.2 hn
  have := hh.2.2.2 b' off' e'
  rw [e'] at e; cases e; omega)
 obtain ⟨r0, r1, r2, hB⟩ := res3 (y0 := .int .u8 2) (y1 := .slice A1 ys.length c1) (y2 := .slice none 0 0) (lr_ _) hB1 p1
 have hn2 := res3_nd (b := w.heap.size) (y0 := .int .u8 2) (y1 := .slice A1 ys.length c1) (y2 := .slice none 0 0) (fun g hg => by omega) hnd
 have f0 := fh_ p1 0
 have f1 := fh_ p1 1
 have f2 := fh_ p1 2
 have s0 := (ch_ p1 0).trans rfl
 have s1 := (ch_ p1 1).trans rfl
 have s2 := (ch_ p1 2).trans rfl
 have HE := hd_ (ai_ hB (NdC.mono (B' := fun g => w.heap.size ≤ g) (fun g hg => by omega) _ _ _ _ hn2))
 clear hB hn2 hnd p1 hB1 hh hb1 HC HB hz
 go_wp2_with fail
 refine bodyPost_ret (v := .agg #[.int .u8 2, .slice A1 ys.length c1, .slice none 0 0]) ?_ rfl ⟨HE.out.1, _, _, _, _, _, _, _, rfl, HE.out.2⟩
 simp [results, Tryz.results83, go_sem, r0, r1, r2]
theorem roctets_any (A : Option Addr) (n c : Nat) (xs : List Int) (w : World) (hx : Bys w A n xs) (hc : n ≤ c) (hm : c ≤ maxLen) (hf : n ≤ 140737488351232) :
 Calls Tryz.prog 147 #[.slice A n c] w (NVal (fun g => w.heap.size ≤ g) w (.mk 4 xs [])) := by
 obtain ⟨W0, hW0⟩ := nm_ (w.alloc (.cells #[.int .u8 0, .slice none 0 0, .slice none 0 0] 33))
 have hb0 : Below w.heap.size w W0 := by rw [← hW0]; exact below_new _ _
 have p0 : W0.heap[w.heap.size]? = some (.cells #[.int .u8 0, .slice none 0 0, .slice none 0 0] 33) := by rw [← hW0]; exact heap_new_ _ _
 have hz0 : W0.heap.size = w.heap.size + 1 := by rw [← hW0]; simp
 obtain ⟨v3, w3, hrun, hown3, hg3, hob3⟩ := app_long (W0.alloc (.cells #[] 5)) W0.heap.size (.slice (some ⟨W0.heap.size, 0, none⟩) 0 0) 0 [] (World.ownsRow_lit W0 #[] 0 (lr_ _) (Nat.zero_le _) rfl) A n c xs ((hx.below hb0).alloc _) (by omega) (by simp)
 rw [Nat.zero_add, List.nil_append] at hown3
 obtain ⟨Ao, co, hv3, hlo, hco, hAo⟩ := own_shape hown3
 subst hv3
 have hb3 : Below W0.heap.size W0 w3 := ((br_ _ _).alloc (lr_ _) _).grown hg3 (by simp) fun j hj => by have hj : some W0.heap.size = some j := hj; cases hj; exact lr_ _
 have hbo := Bys.own hown3 hx.2.1
 have hfar : ∀ g off sp, Ao = some ⟨g, off, sp⟩ → W0.heap.size ≤ g := fun g off sp e => (hown3.lt g (by rw [e]; rfl)).1
 have p1 := (hb3.block w.heap.size (by omega)).trans p0
 have hB1 := below_then hb0 hb3 (lr_ _)
 have hlen : n = xs.length := hx.1.symm
 have hnd : NdC (fun g => w.heap.size < g) w3 (.mk 4 xs []) (.int .u8 4) (.slice Ao n co) (.slice none 0 0) := ndC_leaf (by omega) hlo hco hbo (fun hn g off sp e => by have := hfar g off sp e; omega)
 obtain ⟨r0, r1, r2, hB⟩ := res3 (y0 := .int .u8 4) (y1 := .slice Ao n co) (y2 := .slice none 0 0) (lr_ _) hB1 p1
 have hn2 := res3_nd (b := w.heap.size) (y0 := .int .u8 4) (y1 := .slice Ao n co) (y2 := .slice none 0 0) (fun g hg => by omega) hnd
 have f0 := fh_ p1 0
 have f1 := fh_ p1 1
 have f2 := fh_ p1 2
 have s0 := (ch_ p1 0).trans rfl
 have s1 := (ch_ p1 1).trans rfl
 have s2 := (ch_ p1 2).trans rfl
 have HE := hd_ (ai_ hB (NdC.mono (B' := fun g => w.heap.size ≤ g) (fun g hg => by omega) _ _ _ _ hn2))
 clear hB hn2 hnd p1 hB1 hb3 hbo hfar hown3 hg3 hob3 hx hlen hb0 p0 hz0 hAo hlo hco
 go_enter Tryz.func147, Tryz.ntmps147
 go_wp2_with (at_builtin; refine wpl_append rfl (.tmp 3) (.tmp 4) 30 rfl _ _ _ rfl rfl hrun ?_)
 refine bodyPost_ret (v := .agg #[.int .u8 4, .slice Ao n co, .slice none 0 0]) ?_ rfl ⟨HE.out.1, _, _, _, _, _, _, _, rfl, HE.out.2⟩
 simp [results, Tryz.results147, go_sem, r0, r1, r2]
theorem rbytes_any (B : Nat → Prop) (n : Nd) (b : List Int) (c0 c1 c2 : Value) (w : World) (hn : NdC B w n c0 c1 c2) (hsz : szN n ≤ 20000) (hnt : noT n) (hw : writeF n 0 = .ok b) (hT : Tabs w) :
 Calls Tryz.prog 86 #[.agg #[c0, c1, c2]] w (BVal w b) := by
 obtain ⟨t, A, la, ca, K, lk, ck, rfl, rfl, rfl⟩ := hn.shape
 obtain ⟨W0, hW0⟩ := nm_ (w.alloc (.cells #[.int .u8 t, .slice A la ca, .slice K lk ck] 33))
 have hb0 : Below w.heap.size w W0 := by rw [← hW0]; exact below_new _ _
 have q0 : W0.heap[w.heap.size]? = some (.cells #[.int .u8 t, .slice A la ca, .slice K lk ck] 33) := by rw [← hW0]; exact heap_new_ _ _
 obtain ⟨x0, x1, x2⟩ := box3_ (br_ _ W0) q0
 have hC := refPrintN_any n hsz hnt B _ W0 ⟨_, _, _, rfl, NdC.below hb0 _ _ _ _ hn⟩ (hT.below hb0)
 rw [hw] at hC
 have HC := hd_ hC
 have HB := hd_ hb0
 clear hC hb0 q0 hn hw hsz hnt
 go_enter Tryz.func86, Tryz.ntmps86
 go_wp2_with fail
 refine HC.out.mono ?_
 rintro e w1 ⟨hb1, A1, k1, rfl, h1, h2, h3⟩
 have HE := hd_ (ai_ (below_then HB.out hb1 (lr_ _)) (ai_ h1 (ai_ h2 (fun g off sp e => Nat.le_trans HB.out.size (h3 g off sp e)))))
 clear x0 x1 x2 HC hb1 h1 h2 h3
 go_wp2
 go_ret
 exact ⟨HE.out.1, _, _, rfl, HE.out.2.1, HE.out.2.2.1.1, HE.out.2.2.1.2, HE.out.2.2.2⟩
theorem rknown_any (i : Nat) (w : World) (hi : i < 5) :
 Calls Tryz.prog 85 #[.int .i64 i] w fun e w' => ∃ g, e = .returned (.slice (some ⟨g, 0, none⟩) 4 4) ∧ Ins w' (some ⟨g, 0, none⟩) 4 (koid i) ∧ w.heap.size ≤ g ∧ Below w.heap.size w w' := by
 obtain ⟨W1, hW1⟩ := nm_ (w.alloc (.cells #[.int .i64 19, .int .i64 15, .int .i64 37, .int .i64 17, .int .i64 30] 3))
 have hb1 : Below w.heap.size w W1 := by rw [← hW1]; exact below_new _ _
 have p1 : W1.heap[w.heap.size]? = some (.cells #[.int .i64 19, .int .i64 15, .int .i64 37, .int .i64 17, .int .i64 30] 3) := by rw [← hW1]; exact heap_new_ _ _
 obtain ⟨k, hk⟩ : ∃ k : Int, [19, 15, 37, 17, 30].getD i 0 = k := ⟨_, rfl⟩
 have e0 : W1.cell? ⟨w.heap.size, i, none⟩ = some (.int .i64 k) := by
  rw [← hk]
  match i, hi with
  | 0, _ => exact (ch_ p1 _).trans rfl
  | 1, _ => exact (ch_ p1 _).trans rfl
  | 2, _ => exact (ch_ p1 _).trans rfl
  | 3, _ => exact (ch_ p1 _).trans rfl
  | 4, _ => exact (ch_ p1 _).trans rfl
 have hf : Fit8 (koid i) := by
  match i, hi with
  | 0, _ => unfold Fit8; decide
  | 1, _ => unfold Fit8; decide
  | 2, _ => unfold Fit8; decide
  | 3, _ => unfold Fit8; decide
  | 4, _ => unfold Fit8; decide
 have hko : koid i = [2, 5, 29, k] := by unfold koid; rw [hk]
 rw [hko] at hf ⊢
 have hlit := ins_lit (w := W1) [2, 5, 29, k] 3 (0, 0) hf
 have HE := hd_ (ai_ hlit (ai_ hb1.size (below_then hb1 (below_new W1 (.cells #[.int .i64 2, .int .i64 5, .int .i64 29, .int .i64 k] 3)) (lr_ _))))
 have i0 : (0 : Int) ≤ (i : Int) := by omega
 have i5 : (i : Int) < 5 := by omega
 clear hlit hb1 p1 hf hko hk hi
 go_enter Tryz.func85, Tryz.ntmps85
 go_wp2
 go_ret
 exact ⟨_, rfl, HE.out.1, HE.out.2.1, HE.out.2.2⟩
def whichFrom (o : List Int) (i : Nat) : Int := match i with
 | 0 => whichF o
 | 1 => if o = koid 1 then 1 else if o = koid 2 then 2 else if o = koid 3 then 3 else if o = koid 4 then 4 else -1
 | 2 => if o = koid 2 then 2 else if o = koid 3 then 3 else if o = koid 4 then 4 else -1
 | 3 => if o = koid 3 then 3 else if o = koid 4 then 4 else -1
 | 4 => if o = koid 4 then 4 else -1
 | _ => -1
theorem which_step {o : List Int} {i : Nat} (hi : i < 5) : whichFrom o i = if decide (o = koid i) = true then (i : Int) else whichFrom o (i + 1) := by
 match i, hi with
 | 0, _ => simp [whichFrom, whichF]
 | 1, _ => simp [whichFrom]
 | 2, _ => simp [whichFrom]
 | 3, _ => simp [whichFrom]
 | 4, _ => simp [whichFrom]
theorem rwhich_any (A : Option Addr) (n c : Nat) (xs : List Int) (w : World) (hx : Ins w A n xs) (hc : n ≤ c) (hm : c ≤ maxLen) :
 Calls Tryz.prog 29 #[.slice A n c] w fun e w' => e = .returned (.int .i64 (whichF xs)) ∧ Below w.heap.size w w' := by
 obtain ⟨R, hR⟩ := nm_ (whichF xs)
 rw [hR]
 have hR0 : whichFrom xs 0 = R := hR
 have HX := hd_ (ai_ hx (Nat.le_trans hc hm))
 clear hx hR hc hm
 go_enter Tryz.func29, Tryz.ntmps29
 go_wp2_with fail
 have HR := hd_ hR0
 clear hR0
 go_loopg [3] (5 + 1) (fun gk s wx => ∃ (i : Nat), s = .int .i64 i ∧ i ≤ 5 ∧ 5 - i < gk ∧ Hid (whichFrom xs i = R ∧ Below w.heap.size w wx))
 case atStart => exact ⟨0, rfl, by omega, by omega, hd_ ⟨HR.out, br_ _ _⟩⟩
 case round =>
  obtain ⟨i, rfl, hi, hgk, HI⟩ := hrel
  clear HR
  by_cases hlt : i < 5
  ·have hltz : (i : Int) < 5 := by omega
   obtain ⟨gk', rfl⟩ : ∃ g', gk = g' + 1 := ⟨gk - 1, by omega⟩
   have HN := hd_ (ai_ (show i + 1 ≤ 5 from hlt) (show 5 - (i + 1) < gk' by omega))
   have hst := which_step (o := xs) hlt
   rw [HI.out.1] at hst
   obtain ⟨b, hb⟩ := nm_ (decide (xs = koid i))
   rw [hb] at hst
   have HS := hd_ hst
   have HK := hd_ (rknown_any i wr hlt)
   have HE := hd_ hb
   clear hst hb hgk
   go_wp2_with fail
   refine HK.out.mono ?_
   rintro e w1 ⟨g, rfl, hg, hge, hb1⟩
   have hE := isame_b A (some ⟨g, 0, none⟩) n c 4 4 xs (koid i) w1 (HX.out.1.below (below_then HI.out.2 hb1 (lr_ _))) hg HX.out.2
   rw [HE.out] at hE
   have HC := hd_ hE
   have HB1 := hd_ (below_then HI.out.2 hb1 (lr_ _))
   clear hE hg hge hb1 HK
   go_wp2_with fail
   refine HC.out.mono ?_
   rintro e w2 ⟨rfl, hb2⟩
   have HB2 := hd_ (below_then HB1.out hb2 (lr_ _))
   clear hb2 HC HB1
   cases b
   ·have HS2 := hd_ (show whichFrom xs (i + 1) = R by have h := HS.out; simpa using h.symm)
    go_wp2
    go_roundg gk'
    case measure => omega
    case rel => exact ⟨i + 1, by go_num, HN.out.1, HN.out.2, hd_ ⟨HS2.out, HB2.out⟩⟩
   ·have hR : R = (i : Int) := by have h := HS.out; simpa using h
    subst hR
    clear HS HI HE
    go_wp2
    go_ret
    exact ⟨rfl, HB2.out⟩
  ·obtain rfl : 5 = i := by omega
   have hltz : ¬ ((5 : Nat) : Int) < 5 := by omega
   have hR : -1 = R := HI.out.1
   subst hR
   have HW := hd_ HI.out.2
   clear hgk HI
   go_wp2
   go_ret
   exact ⟨rfl, HW.out⟩
theorem rnames_any (B : Nat → Prop) (A : Option Addr) (n c : Nat) (xs : List (List At)) (w : World) (hl : xs.length = n) (hL : Lst nmE B w A xs) (hc : n ≤ c) (hm : c ≤ maxLen) (hT : Tabs w) :
 Calls Tryz.prog 80 #[.slice A n c] w fun e w' => e = .returned (.bool (xs.all rightN && decide (n ≤ 16))) ∧ Below w.heap.size w w' := by
 have h9 : c ≤ 9223372036854775807 := by unfold maxLen at hm; omega
 obtain ⟨R, hR⟩ := nm_ ((xs.all rightN && decide (n ≤ 16)))
 rw [hR]
 have HR := hd_ (show ((xs.drop 0).all rightN && decide (n ≤ 16)) = R by rw [List.drop_zero]; exact hR)
 have HL := hd_ (ai_ hl (ai_ hL hT))
 clear hl hL hR hm hT
 go_enter Tryz.func80, Tryz.ntmps80
 go_wp2_with fail
 go_loopg [3] (n + 1) (fun gk s wx => ∃ (i : Nat), s = .int .i64 i ∧ i ≤ n ∧ n - i < gk ∧ Hid (((xs.drop i).all rightN && decide (n ≤ 16)) = R ∧ Below w.heap.size w wx))
 case atStart => exact ⟨0, rfl, by omega, by omega, hd_ ⟨HR.out, br_ _ _⟩⟩
 case round =>
  obtain ⟨i, rfl, hi, hgk, HI⟩ := hrel
  clear HR
  by_cases hlt : i < n
  ·have hltz : (i : Int) < (n : Int) := by omega
   obtain ⟨gk', rfl⟩ : ∃ g', gk = g' + 1 := ⟨gk - 1, by omega⟩
   have HN := hd_ (ai_ (show i + 1 ≤ n from hlt) (show n - (i + 1) < gk' by omega))
   have hix : i < xs.length := by rw [HL.out.1]; exact hlt
   obtain ⟨g, off, cs, rfl, hg, hcell, hold⟩ := (HL.out.2.1.below HI.out.2).at i hix
   obtain ⟨e0, rfl, a, ca, rfl, h1, h2, h3⟩ := hold
   have hst : ((xs.drop i).all rightN && decide (n ≤ 16)) = (rightN xs[i] && ((xs.drop (i + 1)).all rightN && decide (n ≤ 16))) := by rw [List.drop_eq_getElem_cons hix, List.all_cons, Bool.and_assoc]
   rw [HI.out.1] at hst
   obtain ⟨y, hy⟩ := nm_ (xs[i])
   rw [hy] at h1 h3 hst hcell
   clear hy
   have hC := rright_any B a y.length ca y wr rfl h3 h1 h2 (HL.out.2.2.below HI.out.2)
   obtain ⟨m, hmm⟩ := nm_ (y.length)
   have x0 := hcell 0 _ rfl
   rw [show nmE.sz = 1 from rfl] at x0
   simp only [Nat.add_zero, Nat.mul_one] at x0
   rw [hmm] at x0 hC
   obtain ⟨b, hb⟩ := nm_ (rightN y)
   rw [hb] at hC hst
   have HC := hd_ hC
   have HS := hd_ hst
   have i1 : (0 : Int) ≤ (i : Int) := by omega
   clear hC hst hb hmm h1 h2 h3 hcell hgk
   go_wp2_with fail
   refine HC.out.mono ?_
   rintro e w2 ⟨rfl, hb2⟩
   have HB2 := hd_ (below_then HI.out.2 hb2 (lr_ _))
   clear hb2 HC x0
   cases b
   ·have hRf : R = false := by have h := HS.out; simpa using h
    subst hRf
    clear HS HI
    go_wp2
    go_ret
    exact ⟨rfl, HB2.out⟩
   ·have HS2 := hd_ (show ((xs.drop (i + 1)).all rightN && decide (n ≤ 16)) = R by have h := HS.out; rw [Bool.true_and] at h; exact h.symm)
    clear HS
    go_wp2
    go_roundg gk'
    case measure => omega
    case rel => exact ⟨i + 1, by go_num, HN.out.1, HN.out.2, hd_ ⟨HS2.out, HB2.out⟩⟩
  ·obtain rfl : n = i := by omega
   have hltz : ¬ (n : Int) < (n : Int) := by omega
   have hRe : decide (n ≤ 16) = R := by have h := HI.out.1; rw [List.drop_of_length_le (Nat.le_of_eq HL.out.1)] at h; simpa using h
   have HW := hd_ HI.out.2
   have h16 : ((n : Int) ≤ 16) = (n ≤ 16) := by rw [eq_iff_iff]; omega
   subst hRe
   clear hgk HI
   by_cases hn : n ≤ 16
   ·have hnz : (n : Int) ≤ 16 := by omega
    go_wp2
    go_ret
    exact ⟨by simp [hn], HW.out⟩
   ·have hnz : ¬ (n : Int) ≤ 16 := by omega
    go_wp2
    go_ret
    exact ⟨by simp [hn], HW.out⟩
end Go.Proofs.YtdcpggodlggjjaaGreatDoor.nmc
