/- Copied: a term on its own. -/
import Derived.Test.YtoaacacbjimloaaTmRc
import Derived.Test.YtoaacacbjimloaaTmV
import Derived.Deep.RegionLaw
namespace Go.Proofs.Ytoaacacbjimloaa.tmc
open Go.RowKit Go.Proofs.Ytoaacacbjimloaa.tlvc
set_option linter.unusedVariables false
def CopiesAt (n : Tm) : Prop := ∀ (B : Nat → Prop) (v : Value) (w : World), TmV B w n v →
    Calls Try.prog 19 #[v] w fun e w' => ∃ v', e = .returned v' ∧ TmV (fun g => w.heap.size ≤ g) w' n v' ∧ Below w.heap.size w w'
set_option maxRecDepth 100000 in
set_option maxHeartbeats 16000000 in
theorem copy_step (o m : Int) (d : List Int) (ks : List Tm) (hk : ∀ k ∈ ks, CopiesAt k) (hdl : d.length ≤ 140737488351232) (hn : ks.length ≤ 100000) : CopiesAt (.mk o m d ks) := by
  intro B v w hv
  obtain ⟨c0, c1, c2, c3, rfl, hc⟩ := hv
  obtain ⟨oo, mm, A, la, ca, K, n, ck, rfl, rfl, rfl, rfl⟩ := hc.shape
  have hc0 := hc
  obtain ⟨hlen, hlc, hck9, _⟩ := kid_at hc
  rw [hlen] at hn
  unfold TmC at hc
  obtain ⟨e0, ho, e1, hm, ⟨A', la', ca', e2, hA1, hA2, hA3, hA4⟩, _⟩ := hc
  cases e0; cases e1; cases e2
  have hdla : d.length = la := hA3.1
  obtain ⟨W0, hW0⟩ : ∃ x, (w.alloc (.cells #[.int .i64 o, .int .i64 m, .slice A la ca, .slice K n ck] 26)).alloc (.cells #[.int .i64 0, .int .i64 0, .slice none 0 0, .slice none 0 0] 26) = x := ⟨_, rfl⟩
  have hz0 : W0.heap.size = w.heap.size + 2 := by rw [← hW0]; simp
  have p0 : W0.heap[w.heap.size]? = some (.cells #[.int .i64 o, .int .i64 m, .slice A la ca, .slice K n ck] 26) := by rw [← hW0, heap_old_ _ _ (by simp)]; exact heap_new_ _ _
  have p1 : W0.heap[w.heap.size + 1]? = some (.cells #[.int .i64 0, .int .i64 0, .slice none 0 0, .slice none 0 0] 26) := by
    rw [← hW0]
    have := heap_new_ (w.alloc (.cells #[.int .i64 o, .int .i64 m, .slice A la ca, .slice K n ck] 26)) (.cells #[.int .i64 0, .int .i64 0, .slice none 0 0, .slice none 0 0] 26)
    rwa [show (w.alloc (.cells #[.int .i64 o, .int .i64 m, .slice A la ca, .slice K n ck] 26)).heap.size = w.heap.size + 1 by simp] at this
  have hb0 : Below w.heap.size w W0 := by rw [← hW0]; exact (below_new _ _).alloc (by simp) _
  obtain ⟨v3, w1, hrun, hown3, hg3, hob3⟩ := app_long (W0.alloc (.cells #[] 5)) W0.heap.size (.slice (some ⟨W0.heap.size, 0, none⟩) 0 0) 0 [] (World.ownsRow_lit W0 #[] 0 (Nat.le_refl _) (Nat.zero_le _) rfl) A la ca d ((hA3.below hb0).alloc _) (by omega) (by simp)
  rw [Nat.zero_add, List.nil_append] at hown3
  obtain ⟨Ao, co, hv3, hlo, hco, hAo⟩ := own_shape hown3
  subst hv3
  have hb1 : Below W0.heap.size W0 w1 := ((Below.refl _ _).alloc (Nat.le_refl _) _).grown hg3 (by simp) fun j hj => by have hj : some W0.heap.size = some j := hj; cases hj; exact Nat.le_refl _
  have hbo := Bys.own hown3 hA3.2.1
  have hfar : ∀ g off sp, Ao = some ⟨g, off, sp⟩ → W0.heap.size ≤ g := fun g off sp e => (hown3.lt g (by rw [e]; rfl)).1
  have q0 := (hb1.block w.heap.size (by omega)).trans p0
  have q1 := (hb1.block (w.heap.size + 1) (by omega)).trans p1
  have hbw1 : Below w.heap.size w w1 := hb0.trans (hb1.mono hb0.size)
  have hst2 : Stays (fun g => Out No w g) w1 (w1.setCell ⟨w.heap.size, 2, none⟩ (.slice Ao la co)) := ⟨by rw [set_size]; exact Nat.le_refl _, fun p hp hl => cell_same (set_heap_other _ _ _ _ _ (fun e => by unfold Out No at hp; omega))⟩
  have hdata2 := bys_stays hst2 hbo (fun hl g off sp e => .inr (by have := hfar g off sp e; omega))
  have hci := CI.stored (w := w) (ks := ks) (i := 0) (R' := none) (c' := 0) (hbw1.setCell (show w.heap.size ≤ (⟨w.heap.size, 2, none⟩ : Addr).block from Nat.le_refl _) (.slice Ao la co)) (set_heap _ _ 2 (.slice Ao la co) _ _ _ q0) ((set_heap_other _ _ _ _ _ (by omega)).trans q1) hdata2 (fun hl g off sp e => ⟨.inr (by have := hfar g off sp e; omega), fun e => by cases e⟩) (by rw [List.take_zero]; exact RNI.start)
  have hkid := fun W (hW : Below w.heap.size w W) => (kid_at (TmC.below hW _ _ _ _ _ hc0)).2.2.2
  have f0 : W0.cell? ⟨w.heap.size, 3, none⟩ = some (.slice K n ck) := by rw [Lib.cell_of_heap p0]; rfl
  have f1 : W0.cell? ⟨w.heap.size, 2, none⟩ = some (.slice A la ca) := by rw [Lib.cell_of_heap p0]; rfl
  have f1' : (W0.alloc (.cells #[] 5)).cell? ⟨w.heap.size, 2, none⟩ = some (.slice A la ca) := by rw [Lib.cell_of_heap ((heap_old_ W0 _ (by omega)).trans p0)]; rfl
  have f2 : w1.frozen? ⟨w.heap.size, 2, none⟩ = false := Lib.frozen_of_heap q0 _
  have f3 : w1.cell? ⟨w.heap.size, 2, none⟩ = some (.slice A la ca) := by rw [Lib.cell_of_heap q0]; rfl
  have q2 := set_heap w1 w.heap.size 2 (.slice Ao la co) _ _ _ q0
  have f4 : (w1.setCell ⟨w.heap.size, 2, none⟩ (.slice Ao la co)).frozen? ⟨w.heap.size, 3, none⟩ = false := Lib.frozen_of_heap q2 _
  have f5 : (w1.setCell ⟨w.heap.size, 2, none⟩ (.slice Ao la co)).cell? ⟨w.heap.size, 3, none⟩ = some (.slice K n ck) := by rw [Lib.cell_of_heap q2]; rfl
  have HKID := Lib.hid hkid
  have HIH := Lib.hid hk
  have HLEN := Lib.hid hlen
  have HCI := Lib.hid hci
  have HB0 := Lib.hid hb0
  have HZ0 := Lib.hid hz0
  have HLO := Lib.hid (And.intro hlo hco)
  clear hkid hk hlen hci hb0 p0 p1 hown3 hg3 hob3 hAo hb1 hbo hfar q0 q1 q2 hbw1 hst2 hdata2 hA3 hA4 hc0 hdla hlo hco hz0
  go_enter Try.func19, Try.ntmps19
  go_wp2_with (at_builtin; refine wpl_append rfl (.tmp 7) (.tmp 9) 23 rfl _ _ _ rfl rfl hrun ?_)
  obtain ⟨W2, hW2⟩ : ∃ y, (w1.setCell ⟨w.heap.size, 2, none⟩ (.slice Ao la co)).setCell ⟨w.heap.size, 3, none⟩ (.slice none 0 0) = y := ⟨_, rfl⟩
  rw [hW2] at HCI ⊢
  clear hW2 hrun f0 f1 f1' f2 f3 f4 f5 hW0
  go_loopg [4] (n + 1) (fun gk s4 wx => ∃ (i : Nat) (R : Option Addr) (c : Nat), s4 = .int .i64 i ∧ i ≤ n ∧ n - i < gk ∧ Hid (CI w o m d Ao la co ks i R c wx))
  case atStart => exact ⟨0, none, 0, rfl, by omega, by omega, HCI⟩
  case round =>
    obtain ⟨i, R, c, rfl, hi, hgk, HI⟩ := hrel
    by_cases hlt : i < n
    · have hltz : (i : Int) < (n : Int) := by omega
      obtain ⟨gk', rfl⟩ : ∃ g', gk = g' + 1 := ⟨gk - 1, by omega⟩
      have HN12 := Lib.hid (And.intro (show i + 1 ≤ n from hlt) (show n - (i + 1) < gk' by omega))
      obtain ⟨k, g, off, d0, d1, d2, d3, hki, rfl, e0, e1, e2, e3, hd⟩ := HKID.out wr HI.out.bel i hlt
      have hcall := HIH.out k (List.mem_of_getElem? hki) _ (.agg #[d0, d1, d2, d3]) wr.drew ⟨_, _, _, _, rfl, TmC.below (Below.refl _ _).drew _ _ _ _ _ hd⟩
      have HCALL := Lib.hid hcall
      have HKI := Lib.hid hki
      have hbx : ∀ W, Below wr.heap.size wr W → W.cell? ⟨w.heap.size, 3, none⟩ = some (.slice R i c) := fun W hW => by
        rw [Lib.cell_of_heap (HI.out.below hW).box]; rfl
      have a3 := hbx wr (Below.refl _ _)
      have HBX := Lib.hid hbx
      clear hcall hki hd hbx hgk
      go_wp2_with fail
      go_region_law (first | (refine step_run rfl (.tmp 20) (.tmp 26) 24 rfl _ _ _ (by simp [Act.eval]) (by simp [Act.eval]) hrun ?_) | (go_simp; go_at_call 19; refine HCALL.out.mono ?_; rintro e w5 ⟨v5, rfl, ⟨n0, n1, n2, n3, rfl, hk5⟩, hb5⟩; obtain ⟨o5, m5, A5, la5, ca5, K5, lk5, ck5, rfl, rfl, rfl, rfl⟩ := hk5.shape; obtain ⟨A7, c7, w7, hrun, g0, g1, hci⟩ := HI.out.step (drew_below hb5) HKI.out (by omega) hk5; have x5 := HBX.out w5 (drew_below hb5); have x6 := HBX.out _ ((drew_below hb5).trans ((below_new w5 (.cells #[.int .i64 o5, .int .i64 m5, .slice A5 la5 ca5, .slice K5 lk5 ck5] 26)).mono (drew_below hb5).size)); have HCI := Lib.hid hci; clear hci hk5 hb5))
      all_goals
        clear hrun g0 g1 x5 x6 a3 e0 e1 e2 e3
        go_wp2
        go_roundg gk'
        case measure => omega
        case rel => exact ⟨i + 1, A7, c7, by go_num, HN12.out.1, HN12.out.2, HCI⟩
    · have hltz : ¬ (i : Int) < (n : Int) := by omega
      obtain rfl : i = n := by omega
      have htk : ks.take i = ks := List.take_of_length_le (by rw [HLEN.out]; omega)
      have hI := HI.out
      have hkf := hI.fin ho hm HLO.out.1 HLO.out.2 htk
      obtain ⟨r0, r1, r2, r3, hB, hT⟩ := res_end2 (w := w) (b := w.heap.size + 1) (S := Out No w) (by omega) hI.bel hI.res (fun g hg => by unfold Out No at hg; omega) hkf
      have hT2 := TmV.mono hT (B' := fun g => w.heap.size ≤ g) (fun g hg => by
        rcases hg with h | h
        · exact h.1.elim
        · omega)
      obtain ⟨s0, s1, s2, s3⟩ := Lat.box (Lat.refl wr) hI.box
      obtain ⟨t0, t1, t2, t3⟩ := Lat.box (Lat.refl wr) hI.res
      have f0 : wr.frozen? ⟨w.heap.size + 1, 0, none⟩ = false := Lib.frozen_of_heap hI.res _
      have f1 : wr.frozen? ⟨w.heap.size + 1, 1, none⟩ = false := Lib.frozen_of_heap hI.res _
      have f2 : wr.frozen? ⟨w.heap.size + 1, 2, none⟩ = false := Lib.frozen_of_heap hI.res _
      have f3 : wr.frozen? ⟨w.heap.size + 1, 3, none⟩ = false := Lib.frozen_of_heap hI.res _
      have HE := Lib.hid (And.intro hB hT2)
      clear hB hT hT2 hkf hI htk HI
      go_wp2_with fail
      refine bodyPost_ret (v := .agg #[.int .i64 o, .int .i64 m, .slice Ao la co, .slice R i c]) ?_ rfl ⟨_, rfl, HE.out.2, HE.out.1⟩
      simp [results, Try.results19, go_sem, r0, r1, r2, r3]
theorem copies_all : ∀ (N : Nat) (n : Tm), szT n ≤ N → N ≤ 100000 → fitD n → CopiesAt n
  | 0, .mk _ _ _ ks, h, _, _ => by unfold szT at h; omega
  | N + 1, .mk o m d ks, h, hN, hf => by
    unfold szT at h
    unfold fitD at hf
    refine copy_step o m d ks (fun k hk => copies_all N k (by have := szTs_mem hk; omega) (by omega) (fitDs_all.1 hf.2 k hk)) hf.1 ?_
    have := len_szTs ks
    omega
theorem copied_any (n : Tm) (h : szT n ≤ 100000) (hf : fitD n) : CopiesAt n := copies_all _ n (Nat.le_refl _) h hf
end Go.Proofs.Ytoaacacbjimloaa.tmc
