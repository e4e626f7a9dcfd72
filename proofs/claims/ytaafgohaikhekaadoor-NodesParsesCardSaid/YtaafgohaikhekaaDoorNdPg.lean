/- The document's parse at a value that is not compound. -/
import Derived.Test.YtaafgohaikhekaaDoorNdPf
namespace Go.Proofs.YtaafgohaikhekaaDoor.ndc
open Go.RowKit Go.Proofs.YtaafgohaikhekaaDoor.tlvc Go.Proofs.YtaafgohaikhekaaDoor.tlvd Go.Proofs.YtaafgohaikhekaaDoor.txc
set_option linter.unusedVariables false
set_option linter.unusedSimpArgs false
/-- The answer laid into its box: the node that it is. -/
theorem Box0.fin {w wx : World} (h : Box0 w wx) {n : Nd} {c0 c1 c2 : Value} (hn : NdC (fun g => w.heap.size < g) wx n c0 c1 c2) :
    NdV (fun g => w.heap.size ≤ g) (((wx.setCell ⟨w.heap.size, 0, none⟩ c0).setCell ⟨w.heap.size, 1, none⟩ c1).setCell ⟨w.heap.size, 2, none⟩ c2) n (.agg #[c0, c1, c2]) := by
  obtain ⟨d0, d1, d2⟩ := h.cells
  obtain ⟨r0, r1, r2, hbl, hk⟩ := three_set wx w.heap.size w.heap.size _ _ _ c0 c1 c2 (Nat.le_refl _) d0 d1 d2
  exact ⟨_, _, _, rfl, NdC.mono (fun g hg => Nat.le_of_lt hg) _ _ _ _ (NdC.stays (w' := ((wx.setCell ⟨w.heap.size, 0, none⟩ c0).setCell ⟨w.heap.size, 1, none⟩ c1).setCell ⟨w.heap.size, 2, none⟩ c2) ⟨hbl.size, fun p hp _ => hk p (by have hp : w.heap.size < p.block := hp; omega)⟩ _ _ _ _ hn)⟩
set_option maxRecDepth 100000 in
set_option maxHeartbeats 16000000 in
theorem parse_plain (outer : Nat) (A : Option Addr) (n c en : Nat) (xs : List Int) (at_ F T : Nat) (t : Int) (w : World) (hx : Bys w A n xs) (hc : n ≤ c) (hm : c ≤ maxLen) (hen : en ≤ n) (hs : Spot (xs.take en) at_ t F T) (hTb : Tabs w) (ho : ¬ 32 ≤ outer) (ht0 : tagF t = 0) (hcp : compB t = false) :
    Calls Tryd.prog 23 #[.slice A n c, .int .i64 at_, .int .i64 en, .int .i64 outer] w (DRPost w (if bodyB t ((xs.take T).drop F) = true then .ok (.mk t ((xs.take T).drop F) []) T else .bad at_ 43)) := by
  have hb0 := Box0.start w
  have hm9 : c ≤ 9223372036854775807 := by unfold maxLen at hm; omega
  have hhd := head_of ref_ways A en c (xs.take en) at_ (w.alloc (.cells #[.int .u8 0, .slice none 0 0, .slice none 0 0] 25)) ((hx.below hb0.bel).upto hen) (by omega) hm
  rw [head_spot hs] at hhd
  unfold Yes at hhd
  have htg := fun W => refTag_any t W hs.tag
  rw [ht0] at htg
  have HH := Lib.hid hhd
  have HTG := Lib.hid htg
  have hez : (0 : Int) ≤ (en : Int) := by omega
  have hec : (en : Int) ≤ (c : Int) := by omega
  have hz : ¬ (32 : Int) ≤ (outer : Int) := by omega
  have htag := hs.tag
  have hbits := comp_bits htag
  rw [hcp] at hbits
  have hbz : (bits .and .u8 t 32 == 0) = true := by cases hx : (bits .and .u8 t 32 == 0) with | true => rfl | false => (rw [bne, hx] at hbits; cases hbits)
  have hlo := hs.lo
  have hmid := hs.mid
  have hhi := hs.hi
  rw [List.length_take, hx.1] at hhi
  have hTn : T ≤ n := by omega
  have hfew := hs.few
  obtain ⟨b, off, rfl, hb, _⟩ := hx.2.2 (by omega)
  obtain ⟨bd, hbd⟩ : ∃ x, (xs.take T).drop F = x := ⟨_, rfl⟩
  obtain ⟨AF, hAF⟩ : ∃ x : Nat, (if c = F then off else off + F) = x := ⟨_, rfl⟩
  have hsub := body_bys hx hc hmid hTn
  rw [hbd, hAF] at hsub
  rw [hbd]
  obtain ⟨RES, hRES⟩ : ∃ x, (if bodyB t bd = true then RR.ok (.mk t bd []) T else .bad at_ 43) = x := ⟨_, rfl⟩
  rw [hRES]
  have HRES := Lib.hid hRES
  clear hRES
  have i1 : (0 : Int) ≤ (F : Int) := by omega
  have i2 : (F : Int) ≤ (T : Int) := by omega
  have i3 : (T : Int) ≤ (c : Int) := by omega
  have HSUB := Lib.hid hsub
  have HTB := Lib.hid hTb
  have HBIT := Lib.hid hbits
  clear hhd htg hs hx hsub hTb hbits
  go_enter Tryd.func23, Tryd.ntmps23
  go_wp2_with fail
  refine HH.out.mono ?_
  rintro e w' ⟨rfl, q, rfl⟩
  have hb1 := hb0.drewN q
  obtain ⟨W1, hW1⟩ : ∃ x, (w.alloc (.cells #[.int .u8 0, .slice none 0 0, .slice none 0 0] 25)).drewN q = x := ⟨_, rfl⟩
  rw [hW1] at hb1 ⊢
  clear hW1 hb0 HH
  go_wp2_with fail
  refine (HTG.out _).mono ?_
  rintro e w1 ⟨rfl, rfl⟩
  clear HTG
  have hb2 := hb1.below (below_new W1 (.cells #[.int .u8 t, .slice none 0 0, .slice none 0 0] 25))
  obtain ⟨W2, hW2⟩ : ∃ x, W1.alloc (.cells #[.int .u8 t, .slice none 0 0, .slice none 0 0] 25) = x := ⟨_, rfl⟩
  rw [hW2] at hb2
  have hn2 : W2.heap[W1.heap.size]? = some (.cells #[.int .u8 t, .slice none 0 0, .slice none 0 0] 25) := by rw [← hW2]; exact box_new _ _ _ _ _
  have hz2 : W1.heap.size < W2.heap.size := by rw [← hW2]; simp
  have hPn : w.heap.size < W1.heap.size := hb1.size
  by_cases hcF : c = F
  · obtain rfl : T = F := by omega
    obtain rfl : n = T := by omega
    subst hcF
    rw [if_pos rfl] at hAF
    subst hAF
    rw [Nat.sub_self] at HSUB
    clear hbd hfew hhi hmid hTn i2 i3 hc
    obtain ⟨v', w4, hrun, hown, hgr, hob⟩ := app_many (W2.alloc (.cells #[] 5)) W2.heap.size (.slice (some ⟨W2.heap.size, 0, none⟩) 0 0) 0 [] (World.ownsRow_lit W2 #[] 0 (Nat.le_refl _) (Nat.zero_le _) rfl) (some ⟨b, off, none⟩) 0 0 bd ((HSUB.out.below hb2.bel).alloc _) (by omega) (by simp)
    rw [Nat.zero_add, List.nil_append] at hown
    obtain ⟨Ao, co, hv', ho1, ho2, ho3⟩ := own_shape hown
    subst hv'
    have hfit : Fit bd := HSUB.out.2.1
    have hby4 : Bys w4 Ao 0 bd := Bys.own hown hfit
    have hfar : ∀ g sp off, Ao = some ⟨g, off, sp⟩ → W2.heap.size ≤ g := fun g sp off e => by
      have := (hown.lt g (by rw [e]; rfl)).1
      exact this
    have b4 : ∀ g, g < W2.heap.size → w4.heap[g]? = W2.heap[g]? := fun g hg => by
      rw [hgr.block g (by simp; omega) (by intro e; have h : g = W2.heap.size := Option.some.inj e; omega), heap_old_ _ _ hg]
    have hbel4 : Below W2.heap.size W2 w4 := ⟨hgr.os, hgr.tape, hgr.output, by have := hgr.size; simp at this; omega, b4⟩
    have hb4 := hb2.below hbel4
    have hn4 := (b4 _ hz2).trans hn2
    obtain ⟨w5, hw5⟩ : ∃ x, w4.setCell ⟨W1.heap.size, 1, none⟩ (.slice Ao 0 co) = x := ⟨_, rfl⟩
    have hn5 : w5.heap[W1.heap.size]? = some (.cells #[.int .u8 t, .slice Ao 0 co, .slice none 0 0] 25) := by rw [← hw5]; exact set_heap _ _ 1 _ _ _ _ hn4
    have hk5 : ∀ g, g ≠ W1.heap.size → w5.heap[g]? = w4.heap[g]? := fun g hg => by rw [← hw5]; exact set_heap_other _ _ _ _ _ hg
    have hz5 : w5.heap.size = w4.heap.size := by rw [← hw5]; exact set_size _ _ _
    have hbel5 : Below w.heap.size w w5 := by
      have := hb4.bel.setCell (show w.heap.size ≤ (⟨W1.heap.size, 1, none⟩ : Addr).block from Nat.le_of_lt hPn) (.slice Ao 0 co)
      rwa [hw5] at this
    have hb5 : Box0 w w5 := ⟨hbel5, (hk5 _ (by omega)).trans hb4.res⟩
    have hby5 : Bys w5 Ao 0 bd := bys_stays (B := fun g => W2.heap.size ≤ g) ⟨by rw [hz5]; exact Nat.le_refl _, fun p hp _ => cell_same (hk5 _ (by have hp : W2.heap.size ≤ p.block := hp; omega))⟩ hby4 (fun _ g off sp e => hfar g sp off e)
    have hbody := refBody_any t Ao 0 co bd w5 htag hby5 ho1 ho2 (HTB.out.below hbel5)
    have f4 : w4.frozen? ⟨W1.heap.size, 1, none⟩ = false := Lib.frozen_of_heap hn4 _
    have m4 : w4.cell? ⟨W1.heap.size, 1, none⟩ = some (.slice none 0 0) := by rw [Lib.cell_of_heap hn4]; rfl
    have l5 : w5.cell? ⟨W1.heap.size, 1, none⟩ = some (.slice Ao 0 co) := by rw [Lib.cell_of_heap hn5]; rfl
    have hnd5 : ∀ W, Below w5.heap.size w5 W → NdC (fun g => w.heap.size < g) W (.mk t bd []) (.int .u8 t) (.slice Ao 0 co) (.slice none 0 0) := fun W hW => by
      unfold NdC
      exact ⟨rfl, htag, ⟨Ao, 0, co, rfl, ho1, ho2, hby5.below hW, fun _ g off sp e => by have := hfar g sp off e; show w.heap.size < g; omega⟩, none, 0, rfl, Nat.le_refl _, Nat.zero_le _, fun h => absurd h (by simp)⟩
    unfold bodyF at hbody
    have hz51 : W1.heap.size < w5.heap.size := (Array.getElem?_eq_some_iff.1 hn5).1
    have HBO := Lib.hid hbody
    have HND := Lib.hid hnd5
    have HB5 := Lib.hid hb5
    have HN5 := Lib.hid hn5
    have HW2 := Lib.hid hW2
    have HW5 := Lib.hid hw5
    clear hW2 hw5 hbody hnd5 hb5 hn5 hby5 hby4 hbel5 hk5 hz5 hn4 hb4 hbel4 b4 hfar hfit hown hgr hob hn2 hb2 HSUB ho3
    go_upto_region 11 with (fail)
    rw [HW2.out]
    clear HW2
    go_upto_region 12 with (at_builtin; refine wpl_append rfl (.tmp 52) (.tmp 56) 22 rfl _ _ _ rfl rfl hrun ?_)
    rw [HW5.out]
    clear HW5 hrun f4 m4
    go_wp2_with fail
    refine HBO.out.mono ?_
    rintro e w6 ⟨rfl, hb6⟩
    have hb7 := HB5.out.below hb6
    have hnd := HND.out w6 hb6
    have hn6 := (hb6.block _ hz51).trans HN5.out
    obtain ⟨d0, d1, d2⟩ := hb7.cells
    obtain ⟨g0, g1, g2⟩ := hb7.free
    by_cases hbb : bodyB t bd = true
    · have hE : RES = .ok (.mk t bd []) c := HRES.out.symm.trans (if_pos hbb)
      rw [if_pos hbb]
      have m0 : w6.cell? ⟨W1.heap.size, 0, none⟩ = some (.int .u8 t) := by rw [Lib.cell_of_heap hn6]; rfl
      have m1 : w6.cell? ⟨W1.heap.size, 1, none⟩ = some (.slice Ao 0 co) := by rw [Lib.cell_of_heap hn6]; rfl
      have m2 : w6.cell? ⟨W1.heap.size, 2, none⟩ = some (.slice none 0 0) := by rw [Lib.cell_of_heap hn6]; rfl
      obtain ⟨r0, r1, r2, hbl⟩ := hb7.set (.int .u8 t) (.slice Ao 0 co) (.slice none 0 0)
      have HE := Lib.hid (And.intro hbl (hb7.fin hnd))
      clear hb7 hbl hnd hn6 HBO HND HB5 HN5 HRES hb6 l5
      subst hE
      go_wp2
      refine bodyPost_ret (v := .tuple #[.agg #[.int .u8 t, .slice Ao 0 co, .slice none 0 0], .int .i64 c, .int .i64 0]) ?_ rfl ⟨HE.out.1, _, rfl, HE.out.2⟩
      simp [results, Tryd.results23, go_sem, r0, r1, r2]
    · have hE : RES = .bad at_ 43 := HRES.out.symm.trans (if_neg hbb)
      rw [if_neg hbb]
      obtain ⟨r0, r1, r2, hbl⟩ := hb7.set (.int .u8 0) (.slice none 0 0) (.slice none 0 0)
      have HE := Lib.hid hbl
      clear hb7 hbl hnd hn6 HBO HND HB5 HN5 HRES hb6 l5
      subst hE
      go_wp2
      refine bodyPost_ret (v := .tuple #[.agg #[.int .u8 0, .slice none 0 0, .slice none 0 0], .int .i64 at_, .int .i64 43]) ?_ rfl ⟨HE.out, rfl⟩
      simp [results, Tryd.results23, go_sem, r0, r1, r2]
  · rw [if_neg hcF] at hAF
    subst hAF
    have hcz : ¬ c - F = 0 := by omega
    obtain ⟨v', w4, hrun, hown, hgr, hob⟩ := app_many (W2.alloc (.cells #[] 5)) W2.heap.size (.slice (some ⟨W2.heap.size, 0, none⟩) 0 0) 0 [] (World.ownsRow_lit W2 #[] 0 (Nat.le_refl _) (Nat.zero_le _) rfl) (some ⟨b, (off + F), none⟩) (T - F) (c - F) bd ((HSUB.out.below hb2.bel).alloc _) (by omega) (by simp)
    rw [Nat.zero_add, List.nil_append] at hown
    obtain ⟨Ao, co, hv', ho1, ho2, ho3⟩ := own_shape hown
    subst hv'
    have hfit : Fit bd := HSUB.out.2.1
    have hby4 : Bys w4 Ao (T - F) bd := Bys.own hown hfit
    have hfar : ∀ g sp off, Ao = some ⟨g, off, sp⟩ → W2.heap.size ≤ g := fun g sp off e => by
      have := (hown.lt g (by rw [e]; rfl)).1
      exact this
    have b4 : ∀ g, g < W2.heap.size → w4.heap[g]? = W2.heap[g]? := fun g hg => by
      rw [hgr.block g (by simp; omega) (by intro e; have h : g = W2.heap.size := Option.some.inj e; omega), heap_old_ _ _ hg]
    have hbel4 : Below W2.heap.size W2 w4 := ⟨hgr.os, hgr.tape, hgr.output, by have := hgr.size; simp at this; omega, b4⟩
    have hb4 := hb2.below hbel4
    have hn4 := (b4 _ hz2).trans hn2
    obtain ⟨w5, hw5⟩ : ∃ x, w4.setCell ⟨W1.heap.size, 1, none⟩ (.slice Ao (T - F) co) = x := ⟨_, rfl⟩
    have hn5 : w5.heap[W1.heap.size]? = some (.cells #[.int .u8 t, .slice Ao (T - F) co, .slice none 0 0] 25) := by rw [← hw5]; exact set_heap _ _ 1 _ _ _ _ hn4
    have hk5 : ∀ g, g ≠ W1.heap.size → w5.heap[g]? = w4.heap[g]? := fun g hg => by rw [← hw5]; exact set_heap_other _ _ _ _ _ hg
    have hz5 : w5.heap.size = w4.heap.size := by rw [← hw5]; exact set_size _ _ _
    have hbel5 : Below w.heap.size w w5 := by
      have := hb4.bel.setCell (show w.heap.size ≤ (⟨W1.heap.size, 1, none⟩ : Addr).block from Nat.le_of_lt hPn) (.slice Ao (T - F) co)
      rwa [hw5] at this
    have hb5 : Box0 w w5 := ⟨hbel5, (hk5 _ (by omega)).trans hb4.res⟩
    have hby5 : Bys w5 Ao (T - F) bd := bys_stays (B := fun g => W2.heap.size ≤ g) ⟨by rw [hz5]; exact Nat.le_refl _, fun p hp _ => cell_same (hk5 _ (by have hp : W2.heap.size ≤ p.block := hp; omega))⟩ hby4 (fun _ g off sp e => hfar g sp off e)
    have hbody := refBody_any t Ao (T - F) co bd w5 htag hby5 ho1 ho2 (HTB.out.below hbel5)
    have f4 : w4.frozen? ⟨W1.heap.size, 1, none⟩ = false := Lib.frozen_of_heap hn4 _
    have m4 : w4.cell? ⟨W1.heap.size, 1, none⟩ = some (.slice none 0 0) := by rw [Lib.cell_of_heap hn4]; rfl
    have l5 : w5.cell? ⟨W1.heap.size, 1, none⟩ = some (.slice Ao (T - F) co) := by rw [Lib.cell_of_heap hn5]; rfl
    have hnd5 : ∀ W, Below w5.heap.size w5 W → NdC (fun g => w.heap.size < g) W (.mk t bd []) (.int .u8 t) (.slice Ao (T - F) co) (.slice none 0 0) := fun W hW => by
      unfold NdC
      exact ⟨rfl, htag, ⟨Ao, (T - F), co, rfl, ho1, ho2, hby5.below hW, fun _ g off sp e => by have := hfar g sp off e; show w.heap.size < g; omega⟩, none, 0, rfl, Nat.le_refl _, Nat.zero_le _, fun h => absurd h (by simp)⟩
    unfold bodyF at hbody
    have hz51 : W1.heap.size < w5.heap.size := (Array.getElem?_eq_some_iff.1 hn5).1
    have HBO := Lib.hid hbody
    have HND := Lib.hid hnd5
    have HB5 := Lib.hid hb5
    have HN5 := Lib.hid hn5
    have HW2 := Lib.hid hW2
    have HW5 := Lib.hid hw5
    clear hW2 hw5 hbody hnd5 hb5 hn5 hby5 hby4 hbel5 hk5 hz5 hn4 hb4 hbel4 b4 hfar hfit hown hgr hob hn2 hb2 HSUB ho3
    go_upto_region 11 with (fail)
    rw [HW2.out]
    clear HW2
    go_upto_region 12 with (at_builtin; refine wpl_append rfl (.tmp 52) (.tmp 56) 22 rfl _ _ _ rfl rfl hrun ?_)
    rw [HW5.out]
    clear HW5 hrun f4 m4
    go_wp2_with fail
    refine HBO.out.mono ?_
    rintro e w6 ⟨rfl, hb6⟩
    have hb7 := HB5.out.below hb6
    have hnd := HND.out w6 hb6
    have hn6 := (hb6.block _ hz51).trans HN5.out
    obtain ⟨d0, d1, d2⟩ := hb7.cells
    obtain ⟨g0, g1, g2⟩ := hb7.free
    by_cases hbb : bodyB t bd = true
    · have hE : RES = .ok (.mk t bd []) T := HRES.out.symm.trans (if_pos hbb)
      rw [if_pos hbb]
      have m0 : w6.cell? ⟨W1.heap.size, 0, none⟩ = some (.int .u8 t) := by rw [Lib.cell_of_heap hn6]; rfl
      have m1 : w6.cell? ⟨W1.heap.size, 1, none⟩ = some (.slice Ao (T - F) co) := by rw [Lib.cell_of_heap hn6]; rfl
      have m2 : w6.cell? ⟨W1.heap.size, 2, none⟩ = some (.slice none 0 0) := by rw [Lib.cell_of_heap hn6]; rfl
      obtain ⟨r0, r1, r2, hbl⟩ := hb7.set (.int .u8 t) (.slice Ao (T - F) co) (.slice none 0 0)
      have HE := Lib.hid (And.intro hbl (hb7.fin hnd))
      clear hb7 hbl hnd hn6 HBO HND HB5 HN5 HRES hb6 l5
      subst hE
      go_wp2
      refine bodyPost_ret (v := .tuple #[.agg #[.int .u8 t, .slice Ao (T - F) co, .slice none 0 0], .int .i64 T, .int .i64 0]) ?_ rfl ⟨HE.out.1, _, rfl, HE.out.2⟩
      simp [results, Tryd.results23, go_sem, r0, r1, r2]
    · have hE : RES = .bad at_ 43 := HRES.out.symm.trans (if_neg hbb)
      rw [if_neg hbb]
      obtain ⟨r0, r1, r2, hbl⟩ := hb7.set (.int .u8 0) (.slice none 0 0) (.slice none 0 0)
      have HE := Lib.hid hbl
      clear hb7 hbl hnd hn6 HBO HND HB5 HN5 HRES hb6 l5
      subst hE
      go_wp2
      refine bodyPost_ret (v := .tuple #[.agg #[.int .u8 0, .slice none 0 0, .slice none 0 0], .int .i64 at_, .int .i64 43]) ?_ rfl ⟨HE.out, rfl⟩
      simp [results, Tryd.results23, go_sem, r0, r1, r2]
end Go.Proofs.YtaafgohaikhekaaDoor.ndc
