/- The document's made. -/
import Derived.Test.YtlhogjigdmpokaaGreatDoorHd
namespace Go.Proofs.YtlhogjigdmpokaaGreatDoor.vtc
open Go.RowKit Go.Proofs.YtlhogjigdmpokaaGreatDoor.tlvc Go.Proofs.YtlhogjigdmpokaaGreatDoor.tmc Go.Proofs.YtlhogjigdmpokaaGreatDoor.rfc
set_option linter.unusedVariables false
theorem made_here {L : List Tm} {hb : List Bool} {n : Nat} {o m : Int} {d : List Int} {ks : List Tm} (ht : L[n]? = some (.mk o m d ks)) : (o = 1 → madeB L hb n = false) ∧ ((o = 2 ∨ o = 3 ∨ o = 4 ∨ o = 6) → ∀ k, ks = [k] → madeB L hb n = (isB L hb k && allB hb d n)) ∧ (o = 5 → madeB L hb n = allB hb d n) ∧ (o = 7 → madeB L hb n = expB L hb ks) := by
  unfold madeB
  rw [ht]
  refine ⟨?_, ?_, ?_, ?_⟩
  · rintro rfl; rfl
  · rintro h k rfl
    show (if o = 2 ∨ o = 3 ∨ o = 4 ∨ o = 6 then _ else _) = _
    rw [if_pos h]
  · rintro rfl; rfl
  · rintro rfl; rfl
set_option maxRecDepth 100000 in
set_option maxHeartbeats 32000000 in
theorem rmade_any {Q : Nat → Prop} {rb : Nat} {ob : Option Nat} {L : List Tm} (hk : Nat) (hb : List Bool) (n : Nat) (w : World) (hV : RVl Q w rb ob L) (hT : Tru w hk 4 hb) (hl : hb.length = L.length) (T : Tbl L) (hn : n < L.length) :
    Calls Tryz.prog 58 #[.pointer (some ⟨rb, 0, none⟩), .slice (some ⟨hk, 0, none⟩) hb.length hb.length, .int .i64 (n : Nat)] w fun e w' => e = .returned (.bool (madeB L hb n)) ∧ Below w.heap.size w w' := by
  obtain ⟨t, ht⟩ : ∃ k, L[n]? = some k := ⟨_, List.getElem?_eq_getElem hn⟩
  obtain ⟨o, m, d, ks⟩ := t
  have hkinds := T.kinds ht
  obtain ⟨A9, c9, x0, x2, x33, _, x4⟩ := hV.at
  obtain ⟨g9, d0, d1, d2, d3, rfl, e0, e1, e2, e3, hd⟩ := x4 n _ ht
  obtain ⟨A, la, ca, K, ck, rfl, rfl, rfl, rfl, hlc, hcm, hby, hkc, hkm, ho, cs, hK⟩ := tm_open hd
  obtain ⟨W5, hW5, hb5, pb5⟩ := own_term (wt := w) (.int .i64 o) (.int .i64 m) (.slice A la ca) (.slice K ks.length ck)
  have hV5 := hV.below hb5
  have hT5 := hT.below hb5
  have hK5 := hK.below hb5
  have hy5 := hby.below hb5
  have htm : ∀ W, Below W5.heap.size W5 W → TmV Q W (.mk o m d ks) (.agg #[.int .i64 o, .int .i64 m, .slice A la ca, .slice K ks.length ck]) := fun W hW => ⟨_, _, _, _, rfl, TmC.below (hb5.trans (hW.mono hb5.size)) _ _ _ _ _ hd⟩
  have hbox : ∀ W, Below W5.heap.size W5 W → W.cell? ⟨w.heap.size, 0, none⟩ = some (.int .i64 o) ∧ W.cell? ⟨w.heap.size, 1, none⟩ = some (.int .i64 m) ∧ W.cell? ⟨w.heap.size, 2, none⟩ = some (.slice A la ca) ∧ W.cell? ⟨w.heap.size, 3, none⟩ = some (.slice K ks.length ck) := fun W hW => boxT hW pb5
  obtain ⟨N, hNN⟩ : ∃ x, L.length = x := ⟨_, rfl⟩
  have hL4 := T.len
  have his : ∀ (B : Nat → Prop) (W : World) (t : Tm) (v : Value), Below W5.heap.size W5 W → TmV B W t v → Calls Tryz.prog 59 #[.pointer (some ⟨rb, 0, none⟩), .slice (some ⟨hk, 0, none⟩) N N, v] W fun e w' => e = .returned (.bool (isB L hb t)) ∧ Below W.heap.size W w' := fun B W t v hW ht => by
    have := ris_any hk hb t v W (hV5.below hW) (hT5.below hW) hl hL4 ht
    rwa [hl, hNN] at this
  have hall : d.length ≤ 8192 → ∀ W, Below W5.heap.size W5 W → Calls Tryz.prog 77 #[.slice (some ⟨hk, 0, none⟩) N N, .slice A la ca, .int .i64 (n : Nat)] W fun e w' => e = .returned (.bool (allB hb d n)) ∧ Below W.heap.size W w' := fun hd8 W hW => by
    have := rall_any hk hb A la ca d n W (hT5.below hW) (hy5.below hW) hlc hcm (by have := hy5.1; omega) hy5.2.1 (by omega) (by omega)
    rwa [hl, hNN] at this
  have hpow : ks.length ≤ 4 → ∀ W, Below W5.heap.size W5 W → Calls Tryz.prog 78 #[.pointer (some ⟨rb, 0, none⟩), .slice (some ⟨hk, 0, none⟩) N N, .agg #[.int .i64 o, .int .i64 m, .slice A la ca, .slice K ks.length ck]] W fun e w' => e = .returned (.bool (expB L hb ks)) ∧ Below W.heap.size W w' := fun h4 W hW => by
    have := power_any hk hb o m d ks _ W (hV5.below hW) (hT5.below hW) hl hL4 (htm W hW) (by omega)
    rwa [hl, hNN] at this
  have hmb := made_here (hb := hb) ht
  rw [hNN] at x0 x2 hn
  rw [hl, hNN]
  have hnz : (n : Int) < (N : Int) := by omega
  have hn0 : (0 : Int) ≤ (n : Int) := by omega
  obtain ⟨lk, hlk⟩ : ∃ x, ks.length = x := ⟨_, rfl⟩
  rw [hlk] at e3 hW5 hbox hkc hK5 hpow hkinds
  obtain ⟨ANS, hANS⟩ : ∃ x, madeB L hb n = x := ⟨_, rfl⟩
  rw [hANS] at hmb ⊢
  have hk9 : ck ≤ 9223372036854775807 := by unfold maxLen at hkm; omega
  have HIS := Lib.hid his
  have HAL := Lib.hid hall
  have HPO := Lib.hid hpow
  have HBX := Lib.hid hbox
  have H0 := Lib.hid (And.intro hb5 hK5)
  have HMB := Lib.hid hmb
  clear x4 hd hV5 hT5 hK5 hy5 htm hbox his hall hpow hNN hL4 hl hV hT T ht hby hlc hcm hkm hK pb5 hb5 hmb hANS ho
  go_enter Tryz.func58, Tryz.ntmps58
  go_upto_region 2 with fail
  (try rw [hW5])
  clear hW5 x0 x2 x33 e0 e1 e2 e3
  obtain ⟨b0, b1, b2, b3⟩ := HBX.out W5 (Below.refl _ _)
  rcases hkinds with ⟨rfl, _⟩ | ⟨h6, rfl, hd8⟩ | ⟨rfl, _, hd8⟩ | ⟨rfl, h4, hx7⟩
  · have hr : ANS = false := HMB.out.1 rfl
    have HR := Lib.hid hr
    clear hr
    go_wp2_with fail
    go_ret
    exact ⟨by rw [HR.out]; rfl, H0.out.1⟩
  · obtain ⟨g, off, f0, f1, f2, f3, rfl, q0, q1, q2, q3, hkd⟩ := H0.out.2.at (i := 0) (by omega)
    rw [Nat.zero_mul, Nat.add_zero] at q0 q1 q2 q3
    obtain ⟨k, hks⟩ := List.length_eq_one_iff.1 hlk
    have hgd : ks.getD 0 default = k := by rw [hks]; rfl
    rw [hgd] at hkd
    have hm : ANS = (isB L hb k && allB hb d n) := HMB.out.2.1 h6 k hks
    have HC := Lib.hid (HIS.out _ W5 k (.agg #[f0, f1, f2, f3]) (Below.refl _ _) ⟨_, _, _, _, rfl, hkd⟩)
    obtain ⟨key, hkey⟩ : ∃ x, isB L hb k = x := ⟨_, rfl⟩
    rw [hkey] at hm HC
    have HM := Lib.hid hm
    clear hm hkd hgd hks hkey hlk
    rcases h6 with rfl | rfl | rfl | rfl
    all_goals
      go_wp2_with fail
      refine HC.out.mono ?_
      rintro e w3 ⟨rfl, hb3⟩
      have HB3 := Lib.hid hb3
      obtain ⟨y0, y1, y2, y3⟩ := HBX.out w3 hb3
      have HA := Lib.hid (HAL.out hd8 w3 hb3)
      clear hb3 HC b0 b1 b2 b3 q0 q1 q2 q3
      cases key
      · have hr : ANS = false := by rw [HM.out]; rfl
        have HR := Lib.hid (And.intro hr (blw H0.out.1 HB3.out))
        clear hr
        go_wp2_with fail
        go_ret
        exact ⟨by rw [HR.out.1]; rfl, HR.out.2⟩
      · have hr := HM.out
        rw [Bool.true_and] at hr
        rw [← hr] at HA
        clear hr
        go_wp2_with fail
        refine HA.out.mono ?_
        rintro e w4 ⟨rfl, hb4⟩
        have HR := Lib.hid (blw (blw H0.out.1 HB3.out) hb4)
        clear hb4 HA
        go_wp2_with fail
        go_ret
        exact ⟨rfl, HR.out⟩
  · have hr : ANS = allB hb d n := HMB.out.2.2.1 rfl
    have HA := Lib.hid (HAL.out hd8 W5 (Below.refl _ _))
    rw [← hr] at HA
    clear hr
    go_wp2_with fail
    refine HA.out.mono ?_
    rintro e w4 ⟨rfl, hb4⟩
    have HR := Lib.hid (blw H0.out.1 hb4)
    clear hb4 HA
    go_wp2_with fail
    go_ret
    exact ⟨rfl, HR.out⟩
  · clear hx7
    have hr : ANS = expB L hb ks := HMB.out.2.2.2 rfl
    have hpo := HPO.out h4 W5 (Below.refl _ _)
    rw [← hr] at hpo
    have HA := Lib.hid hpo
    clear hr hpo hlk HPO HAL HIS HMB HBX h4 hkc hk9 hn
    go_wp2_with fail
    refine HA.out.mono ?_
    rintro e w4 ⟨rfl, hb4⟩
    have HR := Lib.hid (blw H0.out.1 hb4)
    clear hb4 HA
    go_wp2_with fail
    go_ret
    exact ⟨rfl, HR.out⟩
end Go.Proofs.YtlhogjigdmpokaaGreatDoor.vtc
