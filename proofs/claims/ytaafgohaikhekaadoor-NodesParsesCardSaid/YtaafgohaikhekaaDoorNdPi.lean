/- The document's parse at a compound value. -/
import Derived.Test.YtaafgohaikhekaaDoorNdPh
namespace Go.Proofs.YtaafgohaikhekaaDoor.ndc
open Go.RowKit Go.Proofs.YtaafgohaikhekaaDoor.tlvc Go.Proofs.YtaafgohaikhekaaDoor.tlvd Go.Proofs.YtaafgohaikhekaaDoor.txc
set_option linter.unusedVariables false
set_option linter.unusedSimpArgs false
/-- The contract of the document's parse, for values of this depth. -/
def Parses (d outer : Nat) : Prop := ∀ (A : Option Addr) (n c en : Nat) (xs : List Int) (at_ : Nat) (w : World), Bys w A n xs → n ≤ c → c ≤ maxLen → en ≤ n → at_ ≤ en → Tabs w →
    Calls Tryd.prog 23 #[.slice A n c, .int .i64 at_, .int .i64 en, .int .i64 outer] w (DRPost w (readF d outer (xs.take en) at_))
theorem DInv.start {w W1 : World} (h : Box0 w W1) (t : Int) : DInv w W1.heap.size (W1.heap.size + 1) t [] [] [] (.slice none 0 0) (.slice none 0 0) [] (W1.alloc (.cells #[.int .u8 t, .slice none 0 0, .slice none 0 0] 25)) :=
  ⟨h.below (below_new _ _), by simp, World.ownsRow_nil _ _ _ _, fun j hj => absurd hj (by simp), box_new _ _ _ _ _, World.ownsRow_nil _ _ _ _, rfl, .inl rfl⟩
set_option maxRecDepth 100000 in
set_option maxHeartbeats 16000000 in
theorem parse_comp (d outer : Nat) (IH : Parses (d + 1) (outer + 1)) (hdo : d + (outer + 1) = 32) (A : Option Addr) (n c en : Nat) (xs : List Int) (at_ F T : Nat) (t : Int) (w : World) (hx : Bys w A n xs) (hc : n ≤ c) (hm : c ≤ maxLen) (hen : en ≤ n) (hs : Spot (xs.take en) at_ t F T) (hTb : Tabs w) (ht0 : tagF t = 0) (hcp : compB t = true) :
    Calls Tryd.prog 23 #[.slice A n c, .int .i64 at_, .int .i64 en, .int .i64 outer] w (DRPost w (kidsF (readF (d + 1) (outer + 1) (xs.take T)) (xs.take T) F T t at_)) := by
  have hb0 := Box0.start w
  have hm9 : c ≤ 9223372036854775807 := by unfold maxLen at hm; omega
  have hhd := head_of ref_ways A en c (xs.take en) at_ (w.alloc (.cells #[.int .u8 0, .slice none 0 0, .slice none 0 0] 25)) ((hx.below hb0.bel).upto hen) (by omega) hm
  rw [head_spot hs] at hhd
  unfold Yes at hhd
  have htg := fun W => refTag_any t W hs.tag
  rw [ht0] at htg
  have HH := Lib.hid hhd
  have HTG := Lib.hid htg
  have hez : (0 : Int) ≤ (en : Int) := by omega
  have hec : (en : Int) ≤ (c : Int) := by omega
  have hz : ¬ (32 : Int) ≤ (outer : Int) := by omega
  have htag := hs.tag
  have hbits := comp_bits htag
  rw [hcp] at hbits
  have hbz : (bits .and .u8 t 32 == 0) = false := by cases hx : (bits .and .u8 t 32 == 0) with | false => rfl | true => (rw [bne, hx] at hbits; cases hbits)
  have hlo := hs.lo
  have hmid := hs.mid
  have hhi := hs.hi
  rw [List.length_take, hx.1] at hhi
  have hTn : T ≤ n := by omega
  have hfew := hs.few
  obtain ⟨b, off, rfl, hb, _⟩ := hx.2.2 (by omega)
  have hup := hx.upto (k := T) hTn
  obtain ⟨ys, hys⟩ : ∃ x, xs.take T = x := ⟨_, rfl⟩
  rw [hys] at hup ⊢
  have hyl : ys.length = T := hup.1
  obtain ⟨R0, hR0⟩ : ∃ x, readL (readF (d + 1) (outer + 1) ys) ys (T - F) F rk0 = x := ⟨_, rfl⟩
  unfold kidsF
  rw [hR0]
  obtain ⟨RES, hRES⟩ : ∃ x, resF R0 T t at_ = x := ⟨_, rfl⟩
  rw [hRES]
  have hcall := fun (W : World) (next : Nat) (hW : Below w.heap.size w W) (hn : next ≤ T) => IH (some ⟨b, off, none⟩) n c T xs next W (hx.below hW) hc hm hTn hn (hTb.below hW)
  rw [hys] at hcall
  have hwd : IntKind.i64.wrap ((outer : Int) + 1) = ((outer + 1 : Nat) : Int) := by rw [IntWalk.i64_in _ (by omega)]; omega
  have mixed : Tryd.prog.follows Departure.mixedOrders = true := by kernel_rfl
  have HRES := Lib.hid hRES
  have HR := Lib.hid hR0
  have HU := Lib.hid hup
  have HC := Lib.hid hcall
  have HX := Lib.hid hx
  clear hhd htg hs hx hTb hbits hRES hR0 hup hcall IH hys
  go_enter Tryd.func23, Tryd.ntmps23
  go_wp2_with fail
  refine HH.out.mono ?_
  rintro e w' ⟨rfl, q, rfl⟩
  have hb1 := hb0.drewN q
  obtain ⟨W1, hW1⟩ : ∃ x, (w.alloc (.cells #[.int .u8 0, .slice none 0 0, .slice none 0 0] 25)).drewN q = x := ⟨_, rfl⟩
  rw [hW1] at hb1 ⊢
  clear hW1 hb0 HH
  go_wp2_with fail
  refine (HTG.out _).mono ?_
  rintro e w1 ⟨rfl, rfl⟩
  clear HTG
  have hst := DInv.start hb1 t
  obtain ⟨W2, hW2⟩ : ∃ x, W1.alloc (.cells #[.int .u8 t, .slice none 0 0, .slice none 0 0] 25) = x := ⟨_, rfl⟩
  rw [hW2] at hst
  have hPn : w.heap.size < W1.heap.size := hb1.size
  obtain ⟨nb, hnb⟩ : ∃ x, W1.heap.size = x := ⟨_, rfl⟩
  have HW2 := Lib.hid hW2
  have HNB := Lib.hid hnb
  rw [hnb] at hst hPn
  have HS := Lib.hid hst
  clear hW2 hnb hst hb1
  go_wp2_with fail
  rw [HW2.out, HNB.out]
  clear HW2 HNB
  go_loopg [16, 17] (T + 1) (fun gk s16 s17 wx => ∃ (next f : Nat) (ks : List Nd) (bs : List (List Int)) (vs : List Value) (v7 v : Value) (cs : List Value), v7 = s16 ∧ s17 = .int .i64 next ∧ F ≤ next ∧ next ≤ T ∧ T - next ≤ f ∧ T - next < gk ∧ ks.length + F ≤ next ∧ bs.length = ks.length ∧ Hid (readL (readF (d + 1) (outer + 1) ys) ys f next (rkOf ks bs) = R0) ∧ Hid (DInv w nb (nb + 1) t ks bs vs v7 v cs wx))
  case atStart => exact ⟨F, T - F, [], [], [], _, _, [], rfl, rfl, by omega, by omega, by omega, by omega, by simp, rfl, HR, HS⟩
  case round =>
    obtain ⟨next, f, ks, bs, vs, v7, v, cs, rfl, rfl, hn1, hn2, hf, hgk, hkl, hbl, hq, hI⟩ := hrel
    clear HR HS
    by_cases hlt : next < T
    · have hltz : (next : Int) < (T : Int) := by omega
      obtain ⟨gk', rfl⟩ : ∃ g', gk = g' + 1 := ⟨gk - 1, by omega⟩
      obtain ⟨f', rfl⟩ : ∃ f', f = f' + 1 := ⟨f - 1, by omega⟩
      have hrd := HC.out wr next hI.out.box.bel hn2
      obtain ⟨RR, hRR⟩ : ∃ x, readF (d + 1) (outer + 1) ys next = x := ⟨_, rfl⟩
      rw [hRR] at hrd
      have HRD := Lib.hid hrd
      have HRR := Lib.hid hRR
      clear hrd hRR
      go_wp2_with fail
      refine HRD.out.mono ?_
      rintro e w2 ⟨hb2, hpost⟩
      clear HRD
      cases RR with
      | bad a er =>
        simp only at hpost
        subst hpost
        have her : er ≠ 0 := (readF_place d (outer + 1) ys next a er hdo HU.out.2.1 (by omega) HRR.out).2
        have herb : (er == 0) = false := by simpa using her
        have hR : R0 = .bad a er := hq.out.symm.trans (readL_bad (by omega) HRR.out)
        subst hR
        have hE : RES = .bad a er := HRES.out.symm
        subst hE
        have hb3 := (hI.out.box.below hb2).below (below_new w2 (.cells #[.int .u8 0, .slice none 0 0, .slice none 0 0] 25))
        obtain ⟨d0, d1, d2⟩ := hb3.cells
        obtain ⟨g0, g1, g2⟩ := hb3.free
        obtain ⟨r0, r1, r2, hbl⟩ := hb3.set (.int .u8 0) (.slice none 0 0) (.slice none 0 0)
        have HE := Lib.hid hbl
        clear hb3 hbl hb2 hI hq HRES HRR HC
        go_wp2
        refine bodyPost_ret (v := .tuple #[.agg #[.int .u8 0, .slice none 0 0, .slice none 0 0], .int .i64 a, .int .i64 er]) ?_ rfl ⟨HE.out, rfl⟩
        simp [results, Tryd.results23, go_sem, r0, r1, r2]
      | ok nd nx =>
        obtain ⟨vv, rfl, c0, c1, c2, rfl, hnd⟩ := hpost
        obtain ⟨hnx1, hnx2⟩ := readF_next (d + 1) (outer + 1) ys next nd nx HU.out.2.1 (by omega) HRR.out
        rw [hyl] at hnx2
        have hlow := hI.out.low
        have hsz2 := hb2.size
        have hv2 := hb2.block nb (by omega) |>.trans hI.out.node
        have v2 : w2.cell? ⟨nb, 2, none⟩ = some v := by rw [Lib.cell_of_heap hv2]; rfl
        have hv3 := (heap_old_ w2 (.cells #[c0, c1, c2] 25) (show nb < w2.heap.size by omega)).trans hv2
        have v3 : (w2.alloc (.cells #[c0, c1, c2] 25)).cell? ⟨nb, 2, none⟩ = some v := by rw [Lib.cell_of_heap hv3]; rfl
        obtain ⟨o0, o1, o2⟩ := hnd.one
        obtain ⟨tk, Ak, lak, cak, Kk, lkk, ckk, ec0, ec1, ec2⟩ := hnd.shape
        subst ec0 ec1 ec2
        have hw3 : Below w2.heap.size w2 ((w2.alloc (.cells #[.int .u8 tk, .slice Ak lak cak, .slice Kk lkk ckk] 25)).alloc (.cells #[.int .u8 tk, .slice Ak lak cak, .slice Kk lkk ckk] 25)) := ((Below.refl _ _).alloc (Nat.le_refl _) _).alloc (by simp) _
        have hown3 := own_below (own_below hI.out.kids hb2) hw3
        have hnew := heap_new_ (w2.alloc (.cells #[.int .u8 tk, .slice Ak lak cak, .slice Kk lkk ckk] 25)) (.cells #[.int .u8 tk, .slice Ak lak cak, .slice Kk lkk ckk] 25)
        rw [show (w2.alloc (.cells #[.int .u8 tk, .slice Ak lak cak, .slice Kk lkk ckk] 25)).heap.size = w2.heap.size + 1 by simp] at hnew
        obtain ⟨v', w4, hrun, hown', hgr, hob⟩ := app_node _ (nb + 1) v ks.length cs hown3 (w2.heap.size + 1) _ _ _ (by rw [Lib.cell_of_heap hnew]; rfl) (by rw [Lib.cell_of_heap hnew]; rfl) (by rw [Lib.cell_of_heap hnew]; rfl) o0 o1 o2 (by omega) (by have := hw3.size; omega)
        obtain ⟨g', cap', hv'⟩ : ∃ g' cap', v' = .slice (some ⟨g', 0, none⟩) (ks.length + 1) cap' := by
          rcases hown'.2 with ⟨_, h⟩ | ⟨g', cap', _, h, _⟩
          · omega
          · exact ⟨g', cap', h⟩
        have hsub : Bys w (some ⟨b, off + next, none⟩) (nx - next) ((ys.take nx).drop next) := by
          have h1 := (HU.out.upto (k := nx) (by omega)).cut (k := next) (cap := nx + 1) (by omega) (by omega)
          rw [if_neg (by omega)] at h1
          simpa [Addr.add_lit] using h1
        have n4 := hI.out.node4 (by omega) hb2 hw3 hgr
        have v4 : w4.cell? ⟨nb, 2, none⟩ = some v := by rw [Lib.cell_of_heap n4]; rfl
        have f4 : w4.frozen? ⟨nb, 2, none⟩ = false := Lib.frozen_of_heap n4 _
        have hz5 : (w4.setCell ⟨nb, 2, none⟩ v').heap.size = w4.heap.size := set_size _ _ _
        have hnew5 := heap_new_ (w4.setCell ⟨nb, 2, none⟩ v') (.cells #[.slice (some ⟨b, off + next, none⟩) (nx - next) (c - next)] 22)
        rw [hz5] at hnew5
        have hz4 := hgr.size
        have hz3 := hw3.size
        obtain ⟨v7', w7, hrun7, o7, g7, b7⟩ := app_row _ (nb + 1) v7 bs.length vs (hI.out.mid (by omega) hb2 hw3 hgr v' (.cells #[.slice (some ⟨b, off + next, none⟩) (nx - next) (c - next)] 22)) w4.heap.size (.slice (some ⟨b, off + next, none⟩) (nx - next) (c - next)) (by rw [Lib.cell_of_heap hnew5]; rfl) rfl (by omega) (by simp [set_size]; omega)
        have hstep := hI.out.step hPn (by omega) hb2 hnd hw3 hown' hgr hob hsub (by omega) o7 g7 b7
        have HST := Lib.hid hstep
        have hq2 := hq.out
        rw [readL_ok (by omega) HRR.out, rk_add] at hq2
        have HQ2 := Lib.hid hq2
        have s1 : (0 : Int) ≤ (next : Int) := by omega
        have s2 : (next : Int) ≤ (nx : Int) := by omega
        have s3 : (nx : Int) ≤ (c : Int) := by omega
        have s4 : ¬ c - next = 0 := by omega
        have hbl' : (bs ++ [(ys.take nx).drop next]).length = (ks ++ [nd]).length := by simp; omega
        have hkl' : (ks ++ [nd]).length + F ≤ nx := by simp; omega
        subst hv'
        clear hnd hown3 hnew hown' hgr hob hstep hq2 n4 hv2 hv3 hsub hq hb2 o0 o1 o2 hnew5 hz5 o7 g7 b7 hI HC hz4 hz3 hw3 hsz2 hlow
        go_upto_region 22 with (fail)
        go_upto_region 23 with (at_builtin; refine wpl_append rfl (.tmp 90) (.tmp 92) 23 rfl _ _ _ rfl rfl hrun ?_)
        go_wp2_with (at_builtin; refine wpl_append rfl (.tmp 95) (.tmp 100) 54 rfl _ _ _ rfl rfl hrun7 ?_)
        go_roundg gk'
        case measure => omega
        case rel => exact ⟨nx, f', _, _, _, _, _, _, rfl, rfl, by omega, by omega, by omega, by omega, hkl', hbl', HQ2, HST⟩
    · obtain rfl : next = T := by omega
      have hltz : ¬ (next : Int) < (next : Int) := by omega
      have hR : R0 = .ok (rkOf ks bs) := hq.out.symm.trans (by have := readL_end (rec := readF (d + 1) (outer + 1) ys) (ys := ys) (f := f) (k := rkOf ks bs) trivial; rw [hyl] at this; exact this)
      subst hR
      have hvs : ∃ K lk ck, v = .slice K lk ck := by
        rcases hI.out.kids.2 with ⟨h, _⟩ | ⟨g, cap, _, h, _⟩
        · exact ⟨_, _, _, h⟩
        · exact ⟨_, _, _, h⟩
      obtain ⟨K, lk, ck, hve⟩ := hvs
      obtain ⟨L, cl, hv7, hLc, hLm, hbss⟩ := hI.out.reads
      have hris := rising_any L bs.length cl bs wr hbss hLc hLm
      obtain ⟨rs, hrs⟩ : ∃ x, risingB bs = x := ⟨_, rfl⟩
      obtain ⟨lb, hlb⟩ : ∃ x, bs.length = x := ⟨_, rfl⟩
      have hRE : (if t = 49 ∧ (!rs) = true then RR.bad at_ 42 else RR.ok (.mk t [] ks) next) = RES := by rw [← hrs]; exact HRES.out
      have HRE := Lib.hid hRE
      have hnbl : nb < wr.heap.size := by have := hI.out.low; omega
      have hend := fun (W : World) (hW : Below wr.heap.size wr W) => hI.out.below hW hnbl
      rw [hrs, hlb] at hris
      rw [hlb] at hv7
      subst hve hv7
      have HRIS := Lib.hid hris
      have HEN := Lib.hid hend
      clear hRE hris hend hbss hLc hLm hI HC HRES hrs hlb hq hbl
      by_cases ht : t = 49
      · subst ht
        go_wp2_with fail
        refine HRIS.out.mono ?_
        rintro e w6 ⟨rfl, hb6⟩
        have hI6 := HEN.out w6 hb6
        obtain ⟨d0, d1, d2⟩ := hI6.box.cells
        obtain ⟨g0, g1, g2⟩ := hI6.box.free
        have hn6 := hI6.node
        cases rs with
        | false =>
          have hE : RES = .bad at_ 42 := HRE.out.symm
          have hb3 := hI6.box
          obtain ⟨r0, r1, r2, hbl⟩ := hb3.set (.int .u8 0) (.slice none 0 0) (.slice none 0 0)
          have HE := Lib.hid hbl
          clear hb3 hbl hI6 HRE HRIS HEN hn6 hb6
          subst hE
          go_wp2
          refine bodyPost_ret (v := .tuple #[.agg #[.int .u8 0, .slice none 0 0, .slice none 0 0], .int .i64 at_, .int .i64 42]) ?_ rfl ⟨HE.out, rfl⟩
          simp [results, Tryd.results23, go_sem, r0, r1, r2]
        | true =>
          have hE : RES = .ok (.mk 49 [] ks) next := HRE.out.symm
          have m0 : w6.cell? ⟨nb, 0, none⟩ = some (.int .u8 49) := by rw [Lib.cell_of_heap hn6]; rfl
          have m1 : w6.cell? ⟨nb, 1, none⟩ = some (.slice none 0 0) := by rw [Lib.cell_of_heap hn6]; rfl
          have m2 : w6.cell? ⟨nb, 2, none⟩ = some (.slice K lk ck) := by rw [Lib.cell_of_heap hn6]; rfl
          obtain ⟨r0, r1, r2, hbl⟩ := hI6.box.set (.int .u8 49) (.slice none 0 0) (.slice K lk ck)
          have HE := Lib.hid (And.intro hbl (hI6.box.fin (hI6.nd htag hPn (by omega))))
          clear hbl hI6 HRE HRIS HEN hn6 hb6
          subst hE
          go_wp2
          refine bodyPost_ret (v := .tuple #[.agg #[.int .u8 49, .slice none 0 0, .slice K lk ck], .int .i64 next, .int .i64 0]) ?_ rfl ⟨HE.out.1, _, rfl, HE.out.2⟩
          simp [results, Tryd.results23, go_sem, r0, r1, r2]
      · have htb : (t == 49) = false := by simpa using ht
        have hI6 := HEN.out wr (Below.refl _ _)
        obtain ⟨d0, d1, d2⟩ := hI6.box.cells
        obtain ⟨g0, g1, g2⟩ := hI6.box.free
        have hn6 := hI6.node
        have hE : RES = .ok (.mk t [] ks) next := HRE.out.symm.trans (if_neg (fun h => ht h.1))
        have m0 : wr.cell? ⟨nb, 0, none⟩ = some (.int .u8 t) := by rw [Lib.cell_of_heap hn6]; rfl
        have m1 : wr.cell? ⟨nb, 1, none⟩ = some (.slice none 0 0) := by rw [Lib.cell_of_heap hn6]; rfl
        have m2 : wr.cell? ⟨nb, 2, none⟩ = some (.slice K lk ck) := by rw [Lib.cell_of_heap hn6]; rfl
        obtain ⟨r0, r1, r2, hbl⟩ := hI6.box.set (.int .u8 t) (.slice none 0 0) (.slice K lk ck)
        have HE := Lib.hid (And.intro hbl (hI6.box.fin (hI6.nd htag hPn (by omega))))
        clear hbl hI6 HRE HRIS HEN hn6
        subst hE
        go_wp2
        refine bodyPost_ret (v := .tuple #[.agg #[.int .u8 t, .slice none 0 0, .slice K lk ck], .int .i64 next, .int .i64 0]) ?_ rfl ⟨HE.out.1, _, rfl, HE.out.2⟩
        simp [results, Tryd.results23, go_sem, r0, r1, r2]
end Go.Proofs.YtaafgohaikhekaaDoor.ndc
