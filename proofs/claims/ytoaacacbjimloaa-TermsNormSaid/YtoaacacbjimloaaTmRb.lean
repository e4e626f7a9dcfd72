/- The document's Norm. -/
import Derived.Test.YtoaacacbjimloaaTmRa
import Derived.Test.YtoaacacbjimloaaTmV
namespace Go.Proofs.Ytoaacacbjimloaa.tmc
open Go.RowKit Go.Proofs.Ytoaacacbjimloaa.tlvc
set_option linter.unusedVariables false
def RNormsAt (n : Tm) : Prop := ∀ (B : Nat → Prop) (v : Value) (w : World), TmV B w n v →
    Calls Try.prog 22 #[v] w fun e w' => ∃ v', e = .returned v' ∧ TmV (fun g => (B g ∧ g < w.heap.size) ∨ w.heap.size ≤ g) w' (normF n) v' ∧ Below w.heap.size w w'
/-- The kids of a term whose powers are in order. -/
def LIf (o : Int) (l : List Tm) : List Tm := if o = 7 then sortI l else l
theorem LIf_len (o : Int) (l : List Tm) : (LIf o l).length = l.length := by unfold LIf; split; exact sortI_len l; rfl
theorem rni_zero (B : Nat → Prop) (w wx : World) (o : Int) (l : List Tm) : RNI B w 0 none 0 (LIf o (l.take 0)) wx := by
  have h : LIf o (l.take 0) = [] := by
    unfold LIf
    split <;> rfl
  rw [h]
  exact RNI.start
theorem norm_LIf (o m : Int) (d : List Int) (ks : List Tm) : normF (.mk o m d ks) = .mk o m d (LIf o (ks.map normF)) := normF_mk o m d ks
set_option maxRecDepth 100000 in
set_option maxHeartbeats 16000000 in
theorem rnorm_step (o m : Int) (d : List Int) (ks : List Tm) (hk : ∀ k ∈ ks, RNormsAt k) (hn : ks.length ≤ 100000) : RNormsAt (.mk o m d ks) := by
  intro B v w hv
  obtain ⟨c0, c1, c2, c3, rfl, hc⟩ := hv
  obtain ⟨oo, mm, A, la, ca, K, n, ck, rfl, rfl, rfl, rfl⟩ := hc.shape
  have hcb := TmC.bound _ _ _ _ _ hc
  obtain ⟨hlen, hlc, hck9, _⟩ := kid_at hc
  rw [hlen] at hn
  unfold TmC at hc
  obtain ⟨e0, ho, e1, hm, ⟨A', la', ca', e2, hA1, hA2, hA3, hA4⟩, _⟩ := hc
  cases e0; cases e1; cases e2
  rw [norm_LIf]
  obtain ⟨RL, hRL⟩ : ∃ x, LIf o (ks.map normF) = x := ⟨_, rfl⟩
  rw [hRL]
  obtain ⟨W0, hW0⟩ : ∃ x, (w.alloc (.cells #[.int .i64 o, .int .i64 m, .slice A la ca, .slice K n ck] 26)).alloc (.cells #[.int .i64 0, .int .i64 0, .slice none 0 0, .slice none 0 0] 26) = x := ⟨_, rfl⟩
  have hz0 : W0.heap.size = w.heap.size + 2 := by rw [← hW0]; simp
  have p0 : W0.heap[w.heap.size]? = some (.cells #[.int .i64 o, .int .i64 m, .slice A la ca, .slice K n ck] 26) := by rw [← hW0, heap_old_ _ _ (by simp)]; exact heap_new_ _ _
  have p1 : W0.heap[w.heap.size + 1]? = some (.cells #[.int .i64 0, .int .i64 0, .slice none 0 0, .slice none 0 0] 26) := by
    rw [← hW0]
    have := heap_new_ (w.alloc (.cells #[.int .i64 o, .int .i64 m, .slice A la ca, .slice K n ck] 26)) (.cells #[.int .i64 0, .int .i64 0, .slice none 0 0, .slice none 0 0] 26)
    rwa [show (w.alloc (.cells #[.int .i64 o, .int .i64 m, .slice A la ca, .slice K n ck] 26)).heap.size = w.heap.size + 1 by simp] at this
  have hb0 : Below w.heap.size w W0 := by rw [← hW0]; exact (below_new _ _).alloc (by simp) _
  have hbox : ∀ W, Lat W0 W → W.cell? ⟨w.heap.size, 0, none⟩ = some (.int .i64 o) ∧ W.cell? ⟨w.heap.size, 1, none⟩ = some (.int .i64 m) ∧ W.cell? ⟨w.heap.size, 2, none⟩ = some (.slice A la ca) ∧ W.cell? ⟨w.heap.size, 3, none⟩ = some (.slice K n ck) := fun W hW => hW.box p0
  have hbq : ∀ W, Lat W0 W → W.heap[w.heap.size]? = some (.cells #[.int .i64 o, .int .i64 m, .slice A la ca, .slice K n ck] 26) ∧ W.heap[w.heap.size + 1]? = some (.cells #[.int .i64 0, .int .i64 0, .slice none 0 0, .slice none 0 0] 26) := fun W hW => ⟨(Below.block hW _ (by omega)).trans p0, (Below.block hW _ (by omega)).trans p1⟩
  have hkid := fun W (hW : Lat W0 W) => (kid_at (TmC.below (Lat.below hb0 hW) _ _ _ _ _ hcb)).2.2.2
  have HBOX := Lib.hid hbox
  have HBQ := Lib.hid hbq
  have HKID := Lib.hid hkid
  have HIH := Lib.hid hk
  have HLEN := Lib.hid hlen
  have HRL := Lib.hid hRL
  have HA3 := Lib.hid hA3
  have HA4 := Lib.hid hA4
  have HB0 := Lib.hid hb0
  have HZ0 := Lib.hid hz0
  clear hbox hbq hkid hk hlen hRL hA3 hA4 hb0 hz0 p0 p1 hcb
  go_enter Try.func22, Try.ntmps22
  go_wp2_with fail
  clear hW0
  go_loopg [3, 4] (n + 1) (fun gk s3 s4 wx => ∃ (i : Nat) (R : Option Addr) (c : Nat), s3 = .slice R i c ∧ s4 = .int .i64 i ∧ i ≤ n ∧ n - i < gk ∧ Hid (RNI B w i R c (LIf o ((ks.map normF).take i)) wx) ∧ Hid (Lat W0 wx))
  case atStart => exact ⟨0, none, 0, rfl, rfl, by omega, by omega, Lib.hid (rni_zero _ _ _ _ _), Lib.hid (Lat.refl _)⟩
  case round =>
    obtain ⟨i, R, c, rfl, rfl, hi, hgk, HI, HW⟩ := hrel
    obtain ⟨a0, a1, a2, a3⟩ := HBOX.out wr HW.out
    by_cases hlt : i < n
    · have hltz : (i : Int) < (n : Int) := by omega
      obtain ⟨gk', rfl⟩ : ∃ g', gk = g' + 1 := ⟨gk - 1, by omega⟩
      have HN12 := Lib.hid (And.intro (show i + 1 ≤ n from hlt) (show n - (i + 1) < gk' by omega))
      obtain ⟨k, g, off, d0, d1, d2, d3, hki, rfl, e0, e1, e2, e3, hd⟩ := HKID.out wr HW.out i hlt
      have hmem : k ∈ ks := List.mem_of_getElem? hki
      have hsnoc : (ks.map normF).take (i + 1) = (ks.map normF).take i ++ [normF k] := by
        obtain ⟨hh, rfl⟩ := List.getElem?_eq_some_iff.1 hki
        rw [List.take_succ_eq_append_getElem (by rw [List.length_map]; exact hh), List.getElem_map]
      have hcall := HIH.out k hmem _ (.agg #[d0, d1, d2, d3]) wr ⟨_, _, _, _, rfl, hd⟩
      have HCALL := Lib.hid hcall
      have HSN := Lib.hid hsnoc
      have hzr : w.heap.size + 2 ≤ wr.heap.size := by have := (HW.out).size; have := HZ0.out; omega
      clear hcall hsnoc hmem hki hd
      go_wp2_with fail
      refine HCALL.out.mono ?_
      rintro e w5 ⟨v5, rfl, ⟨n0, n1, n2, n3, rfl, hk5⟩, hb5⟩
      obtain ⟨o5, m5, A5, la5, ca5, K5, lk5, ck5, rfl, rfl, rfl, rfl⟩ := hk5.shape
      obtain ⟨W5, hW5⟩ : ∃ y, w5.alloc (.cells #[.int .i64 o5, .int .i64 m5, .slice A5 la5 ca5, .slice K5 lk5 ck5] 26) = y := ⟨_, rfl⟩
      have hbn : Below w5.heap.size w5 W5 := by rw [← hW5]; exact below_new _ _
      have hqn : W5.heap[w5.heap.size]? = some (.cells #[.int .i64 o5, .int .i64 m5, .slice A5 la5 ca5, .slice K5 lk5 ck5] 26) := by rw [← hW5]; exact heap_new_ _ _
      have hbr5 : Below wr.heap.size wr W5 := hb5.trans (hbn.mono hb5.size)
      have hL5 : Lat W0 W5 := HW.out.then_ hbr5
      have hR5 := HI.out.below hbr5
      have hk5' := TmC.bound _ _ _ _ _ (TmC.below hbn _ _ _ _ _ hk5)
      obtain ⟨q0, q1, q2, q3⟩ := Lat.box (Lat.refl W5) hqn
      obtain ⟨b0, b1, b2, b3⟩ := HBOX.out W5 hL5
      have hz5 := hbr5.size
      by_cases h7 : o = 7
      · subst h7
        obtain ⟨t1, t2, t3⟩ := hR5.tms
        have hput := rput_any (LIf 7 ((ks.map normF).take i)) (normF k) R i c _ _ (.agg #[.int .i64 o5, .int .i64 m5, .slice A5 la5 ca5, .slice K5 lk5 ck5]) W5 hR5.len t3 t1 t2 (by omega) ⟨_, _, _, _, rfl, hk5'⟩ (fun g => Out B w g ∧ g < W5.heap.size) (fun g h => h) (fun g h => ⟨by
          rcases h.1 with h | h
          · exact .inl h.1
          · exact .inr (by omega), h.2⟩)
        have hps : putF (LIf 7 ((ks.map normF).take i)) (normF k) = LIf 7 ((ks.map normF).take (i + 1)) := by rw [HSN.out]; unfold LIf; rw [if_pos rfl, if_pos rfl, sortI_snoc]
        rw [hps] at hput
        have hpl : (LIf 7 ((ks.map normF).take (i + 1))).length = i + 1 := by rw [LIf_len, List.length_take, List.length_map, HLEN.out]; omega
        have HPUT := Lib.hid hput
        have HPL := Lib.hid hpl
        have HL5 := Lib.hid hL5
        have hzz : w.heap.size + 2 ≤ W5.heap.size := by omega
        clear hput hps hpl hL5 hR5 hk5' hk5 hb5 hbn hqn hbr5 HCALL e0 e1 e2 e3 a0 a1 a2 a3 t1 t2 t3
        go_wp2_with fail
        clear hW5
        refine HPUT.out.mono ?_
        rintro e w7 ⟨A7, c7, cs7, rfl, hown, hq, hb7⟩
        have hl := HPL.out
        rw [hl] at hown ⊢
        have hR7 := RNI.put (l := []) hzz hl hown hq
        have hL7 := HL5.out.then_ hb7
        have HR7 := Lib.hid hR7
        have HL7 := Lib.hid hL7
        clear hl hown hq hb7 hR7 hL7 HPUT HPL HL5 q0 q1 q2 q3 b0 b1 b2 b3
        go_wp2
        go_roundg gk'
        case measure => omega
        case rel => exact ⟨i + 1, A7, c7, by go_num, by go_num, HN12.out.1, HN12.out.2, HR7, HL7⟩
      · have hb7 : (o == 7) = false := by simpa using h7
        obtain ⟨W6, hW6⟩ : ∃ y, W5.alloc (.cells #[.int .i64 o5, .int .i64 m5, .slice A5 la5 ca5, .slice K5 lk5 ck5] 26) = y := ⟨_, rfl⟩
        have hbn6 : Below W5.heap.size W5 W6 := by rw [← hW6]; exact below_new _ _
        have hqn6 : W6.heap[W5.heap.size]? = some (.cells #[.int .i64 o5, .int .i64 m5, .slice A5 la5 ca5, .slice K5 lk5 ck5] 26) := by rw [← hW6]; exact heap_new_ _ _
        have hown_lt : ∀ g, (Value.slice R 0 0).ownBlock = some g → w.heap.size + 2 ≤ g ∧ g < wr.heap.size := fun g e => by
          obtain ⟨cs, hown, _⟩ := HI.out.row
          exact hown.lt g ((own_le R i c).trans e)
        obtain ⟨A7, c7, W7, hrun, hR7, hb67, _⟩ := (hR5.below hbn6).app (by have := hbn6.size; omega) (by omega) (TmC.mono (fun g h => ⟨by
          rcases h.1 with h | h
          · exact .inl h.1
          · exact .inr (by omega), fun e => by
          have h2 := hown_lt g e.symm
          rcases h.1 with h | h
          · have := h.1.2; omega
          · omega⟩) _ _ _ _ _ (TmC.below hbn6 _ _ _ _ _ hk5')) W5.heap.size 1 _ _ hqn6
        have hps : LIf o ((ks.map normF).take i) ++ [normF k] = LIf o ((ks.map normF).take (i + 1)) := by rw [HSN.out]; unfold LIf; rw [if_neg h7, if_neg h7]
        rw [hps] at hR7
        have hz0 := HZ0.out
        have hL6 : Lat W0 W6 := hL5.then_ hbn6
        have hL7 : Lat W0 W7 := Below.trans hL6 (by unfold Lat at hL6; rw [hz0]; exact hb67)
        have HR7 := Lib.hid hR7
        have HL7 := Lib.hid hL7
        clear hps hL5 hR5 hk5' hk5 hb5 hbn hqn hbr5 HCALL e0 e1 e2 e3 a0 a1 a2 a3 hR7 hL7 hL6 hb67 hown_lt hqn6 hbn6 hz0
        go_wp2_with (at_builtin; refine wpl_append rfl (.tmp 25) (.tmp 27) 24 rfl _ _ _ rfl rfl hrun ?_)
        clear hrun
        go_roundg gk'
        case measure => omega
        case rel => exact ⟨i + 1, A7, c7, by go_num, by go_num, HN12.out.1, HN12.out.2, HR7, HL7⟩
    · have hltz : ¬ (i : Int) < (n : Int) := by omega
      obtain rfl : i = n := by omega
      have hRL : LIf o ((ks.map normF).take i) = RL := by rw [← HRL.out, List.take_of_length_le (by rw [List.length_map, HLEN.out]; omega)]
      have hI := HI.out
      rw [hRL] at hI
      have hBw : Below w.heap.size w wr := Lat.below HB0.out HW.out
      obtain ⟨x0, x1⟩ := HBQ.out wr HW.out
      obtain ⟨hkf, y0, y1, hBf⟩ := hI.fin hBw ho hm (HA3.out.below hBw) hA1 hA2 (fun hl g off sp e => .inl ⟨HA4.out hl g off sp e, by
        obtain ⟨b', off', e', hb', _⟩ := HA3.out.2.2 hl
        rw [e'] at e; cases e; exact hb'⟩) x0 x1
      obtain ⟨r0, r1, r2, r3, hB, hT⟩ := res_end2 (w := w) (b := w.heap.size + 1) (S := Out B w) (by omega) hBf y1 (fun g hg => by unfold Out at hg; omega) hkf
      have hT2 := TmV.mono hT (B' := fun g => (B g ∧ g < w.heap.size) ∨ w.heap.size ≤ g) (fun g hg => by
        rcases hg with h | h
        · exact .inl h
        · exact .inr (by omega))
      have u3 : wr.frozen? ⟨w.heap.size, 3, none⟩ = false := Lib.frozen_of_heap x0 _
      obtain ⟨s0, s1, s2, s3⟩ := Lat.box (Lat.refl (wr.setCell ⟨w.heap.size, 3, none⟩ (.slice R i c))) y0
      obtain ⟨t0, t1, t2, t3⟩ := Lat.box (Lat.refl (wr.setCell ⟨w.heap.size, 3, none⟩ (.slice R i c))) y1
      have f0 : (wr.setCell ⟨w.heap.size, 3, none⟩ (.slice R i c)).frozen? ⟨w.heap.size + 1, 0, none⟩ = false := Lib.frozen_of_heap y1 _
      have f1 : (wr.setCell ⟨w.heap.size, 3, none⟩ (.slice R i c)).frozen? ⟨w.heap.size + 1, 1, none⟩ = false := Lib.frozen_of_heap y1 _
      have f2 : (wr.setCell ⟨w.heap.size, 3, none⟩ (.slice R i c)).frozen? ⟨w.heap.size + 1, 2, none⟩ = false := Lib.frozen_of_heap y1 _
      have f3 : (wr.setCell ⟨w.heap.size, 3, none⟩ (.slice R i c)).frozen? ⟨w.heap.size + 1, 3, none⟩ = false := Lib.frozen_of_heap y1 _
      have HE := Lib.hid (And.intro hB hT2)
      clear hB hT hT2 hkf y0 y1 hBf x0 x1 hBw hI hRL HI
      go_wp2_with fail
      refine bodyPost_ret (v := .agg #[.int .i64 o, .int .i64 m, .slice A la ca, .slice R i c]) ?_ rfl ⟨_, rfl, HE.out.2, HE.out.1⟩
      simp [results, Try.results22, go_sem, r0, r1, r2, r3]
theorem rnorms_all : ∀ (N : Nat) (n : Tm), szT n ≤ N → N ≤ 100000 → RNormsAt n
  | 0, .mk _ _ _ ks, h, _ => by unfold szT at h; omega
  | N + 1, .mk o m d ks, h, hN => by
    unfold szT at h
    refine rnorm_step o m d ks (fun k hk => rnorms_all N k (by have := szTs_mem hk; omega) (by omega)) ?_
    have := len_szTs ks
    omega
theorem rnorm_any (n : Tm) (h : szT n ≤ 100000) : RNormsAt n := rnorms_all _ n (Nat.le_refl _) h
end Go.Proofs.Ytoaacacbjimloaa.tmc
