/- The document's step. -/
import Derived.Test.YtlhogjigdmpokaaGreatDoorHe
namespace Go.Proofs.YtlhogjigdmpokaaGreatDoor.vtc
open Go.RowKit Go.Proofs.YtlhogjigdmpokaaGreatDoor.tlvc Go.Proofs.YtlhogjigdmpokaaGreatDoor.tmc Go.Proofs.YtlhogjigdmpokaaGreatDoor.rfc
set_option linter.unusedVariables false
theorem tru_ne {w : World} {b g off : Nat} {T : TypeId} {hb : List Bool} {k : IntKind} {x : Int} (h : Tru w b T hb) (hc : w.cell? ⟨g, off, none⟩ = some (.int k x)) : g ≠ b := fun e => by
  subst e
  obtain ⟨c, h1, h2, h3⟩ := h
  have h4 : c[off]? = some (.int k x) := (Lib.cell_of_heap h1 _).symm.trans hc
  have h5 := (Array.getElem?_eq_some_iff.1 h4).1
  rw [h3 off (by omega)] at h4
  cases h4
/-- How far a round has come. -/
structure Stp (L : List Tm) (hb hb1 : List Bool) (mo : Bool) (n : Nat) : Prop where
  len : hb1.length = hb.length
  snd : ∀ K, Snd L K hb → Snd L K hb1
  up : ∀ m, SB hb m → SB hb1 m
  less : mo = true → lackB hb1 < lackB hb
  same : mo = false → hb1 = hb ∧ (∀ j, j < n → SB hb j ∨ madeB L hb j = false) ∧ ∀ (i : Nat) (m : Int) (d : List Int) (k : Tm) (r : List Tm), i < n → SB hb i → L[i]? = some (.mk 4 m d (k :: r)) → isB L hb k = true → ∀ x ∈ mentionsF d (i : Int), SB hb x.toNat
theorem Stp.start (L : List Tm) (hb : List Bool) : Stp L hb hb false 0 := ⟨rfl, fun _ h => h, fun _ h => h, (fun e => by cases e), fun _ => ⟨rfl, fun j hj => absurd hj (Nat.not_lt_zero _), fun i _ _ _ _ hi => absurd hi (Nat.not_lt_zero _)⟩⟩
theorem Stp.set {L : List Tm} {hb hb1 : List Bool} {mo : Bool} {n x : Nat} (h : Stp L hb hb1 mo n) (hx : x < hb1.length) (hno : hb1.getD x false = false) (hs : ∀ K, Snd L K hb1 → Snd L K (hb1.set x true)) : Stp L hb (hb1.set x true) true n :=
  ⟨by rw [List.length_set]; exact h.len, fun K hK => hs K (h.snd K hK), fun m hm => (SB.set hx).2 (.inr (h.up m hm)), fun _ => by
    have h1 := lack_set hb1 x hx hno
    cases mo
    · obtain ⟨e, _⟩ := h.same rfl
      subst e
      omega
    · have := h.less rfl
      omega, fun e => by cases e⟩
theorem Stp.next {L : List Tm} {hb hb1 : List Bool} {mo : Bool} {n : Nat} (h : Stp L hb hb1 mo n) (h1 : mo = false → SB hb n ∨ madeB L hb n = false)
    (h2 : mo = false → ∀ (m : Int) (d : List Int) (k : Tm) (r : List Tm), SB hb n → L[n]? = some (.mk 4 m d (k :: r)) → isB L hb k = true → ∀ x ∈ mentionsF d (n : Int), SB hb x.toNat) : Stp L hb hb1 mo (n + 1) :=
  ⟨h.len, h.snd, h.up, h.less, fun e => by
    obtain ⟨e1, e2, e3⟩ := h.same e
    refine ⟨e1, fun j hj => ?_, fun i m d k r hi => ?_⟩
    · rcases Nat.lt_or_ge j n with hl | hl
      · exact e2 j hl
      · obtain rfl : j = n := by omega
        exact h1 e
    · rcases Nat.lt_or_ge i n with hl | hl
      · exact e3 i m d k r hl
      · obtain rfl : i = n := by omega
        exact h2 e m d k r⟩
theorem Stp.not {L : List Tm} {hb hb1 : List Bool} {mo : Bool} {n : Nat} (h : Stp L hb hb1 mo n) (hn : hb1.getD n false = false) (hm : madeB L hb1 n = false) : Stp L hb hb1 mo (n + 1) :=
  h.next (fun e => by obtain ⟨e1, _⟩ := h.same e; subst e1; exact .inr hm) (fun e m d k r hs => by obtain ⟨e1, _⟩ := h.same e; subst e1; unfold SB at hs; rw [hn] at hs; cases hs)
theorem Stp.other {L : List Tm} {hb hb1 : List Bool} {mo : Bool} {n : Nat} {o m : Int} {d : List Int} {ks : List Tm} (h : Stp L hb hb1 mo n) (hn : hb1.getD n false = true) (ht : L[n]? = some (.mk o m d ks)) (ho : o ≠ 4) : Stp L hb hb1 mo (n + 1) :=
  h.next (fun e => by obtain ⟨e1, _⟩ := h.same e; subst e1; exact .inl hn) (fun e m d k r hs e2 => by rw [ht] at e2; cases e2; exact absurd rfl ho)
theorem Stp.shut {L : List Tm} {hb hb1 : List Bool} {mo : Bool} {n : Nat} {m : Int} {d : List Int} {k : Tm} {r : List Tm} (h : Stp L hb hb1 mo n) (hn : hb1.getD n false = true) (ht : L[n]? = some (.mk 4 m d (k :: r))) (hk : isB L hb1 k = false) : Stp L hb hb1 mo (n + 1) :=
  h.next (fun e => by obtain ⟨e1, _⟩ := h.same e; subst e1; exact .inl hn) (fun e m d k r hs e2 h3 => by obtain ⟨e1, _⟩ := h.same e; subst e1; rw [ht] at e2; cases e2; rw [hk] at h3; cases h3)
theorem Stp.told {L : List Tm} {hb hb1 : List Bool} {mo : Bool} {n : Nat} {m : Int} {d : List Int} {k : Tm} {r : List Tm} (h : Stp L hb hb1 mo n) (hn : SB hb1 n) (ht : L[n]? = some (.mk 4 m d (k :: r))) (hx : ∀ x ∈ mentionsF d (n : Int), SB hb1 x.toNat) : Stp L hb hb1 mo (n + 1) :=
  h.next (fun e => by obtain ⟨e1, _⟩ := h.same e; subst e1; exact .inl hn) (fun e m d k r hs e2 h3 => by obtain ⟨e1, _⟩ := h.same e; subst e1; rw [ht] at e2; cases e2; exact hx)
def StpPost (L : List Tm) (hk : Nat) (hb : List Bool) (w : World) (e : Ending) (w' : World) : Prop := ∃ hb' more, e = .returned (.bool more) ∧ Off (fun g => g = hk) w w' ∧ Tru w' hk 4 hb' ∧ Stp L hb hb' more L.length
theorem isB_up {L : List Tm} {hb hb1 : List Bool} {k : Tm} (h : ∀ m, SB hb m → SB hb1 m) (hk : isB L hb k = true) : isB L hb1 k = true := isB_iff.2 (isH_mono h (isB_iff.1 hk))
set_option maxRecDepth 100000 in
set_option maxHeartbeats 32000000 in
theorem rstep_any {Q : Nat → Prop} {rb : Nat} {ob : Option Nat} {L : List Tm} (hk : Nat) (hb : List Bool) (w : World) (hV : RVl Q w rb ob L) (hT : Tru w hk 4 hb) (hl : hb.length = L.length) (T : Tbl L) (hQ : ¬ Q hk) (hM : ¬ MutR rb ob hk) :
    Calls Tryz.prog 33 #[.pointer (some ⟨rb, 0, none⟩), .slice (some ⟨hk, 0, none⟩) hb.length hb.length] w (StpPost L hk hb w) := by
  have hvo : ∀ W, Off (fun g => g = hk) w W → RVl Q W rb ob L := fun W h => hV.off h (fun g _ hg e => by
    have e : g = hk := e
    subst e
    exact hg.elim hQ hM)
  obtain ⟨N, hNN⟩ : ∃ x, L.length = x := ⟨_, rfl⟩
  have hL4 := T.len
  have hmade : ∀ (n : Nat) (W : World) (hb1 : List Bool), n < N → Off (fun g => g = hk) w W → hb1.length = hb.length → Tru W hk 4 hb1 → Calls Tryz.prog 58 #[.pointer (some ⟨rb, 0, none⟩), .slice (some ⟨hk, 0, none⟩) N N, .int .i64 (n : Nat)] W fun e w' => e = .returned (.bool (madeB L hb1 n)) ∧ Below W.heap.size W w' := fun n W hb1 hn ho hl1 ht => by
    have := rmade_any hk hb1 n W (hvo W ho) ht (hl1.trans hl) T (by omega)
    rwa [hl1, hl, hNN] at this
  have his : ∀ (B : Nat → Prop) (W : World) (hb1 : List Bool) (t : Tm) (v : Value), Off (fun g => g = hk) w W → hb1.length = hb.length → Tru W hk 4 hb1 → TmV B W t v → Calls Tryz.prog 59 #[.pointer (some ⟨rb, 0, none⟩), .slice (some ⟨hk, 0, none⟩) N N, v] W fun e w' => e = .returned (.bool (isB L hb1 t)) ∧ Below W.heap.size W w' := fun B W hb1 t v ho hl1 ht hv => by
    have := ris_any hk hb1 t v W (hvo W ho) ht (hl1.trans hl) hL4 hv
    rwa [hl1, hl, hNN] at this
  have HVO := Lib.hid hvo
  have HMD := Lib.hid hmade
  have HIS := Lib.hid his
  have H0 := Lib.hid (And.intro T (And.intro hl (And.intro hNN hT)))
  rw [hl, hNN]
  rw [hNN] at hL4
  clear hV hT T hQ hM hvo hmade his hl hNN
  go_enter Tryz.func33, Tryz.ntmps33
  go_wp2_with fail
  go_loopg [5, 6] (N + 1) (fun gk s5 s6 wx => ∃ (n : Nat) (mo : Bool), s5 = .bool mo ∧ s6 = .int .i64 (n : Nat) ∧ n ≤ N ∧ N - n < gk ∧ Hid (∃ hb1, Off (fun g => g = hk) w wx ∧ Tru wx hk 4 hb1 ∧ Stp L hb hb1 mo n))
  case atStart => exact ⟨0, false, rfl, rfl, by omega, by omega, Lib.hid ⟨hb, Off.refl _ _, H0.out.2.2.2, Stp.start L hb⟩⟩
  case round =>
    obtain ⟨n, mo, rfl, rfl, hn, hgk, HR⟩ := hrel
    obtain ⟨hb1, ho1, ht1, hs1⟩ := HR.out
    obtain ⟨A9, c9, x0, x2, x33, _, x4⟩ := (HVO.out wr ho1).at
    rw [H0.out.2.2.1] at x0 x2
    clear x4
    have hl1 : hb1.length = N := by rw [hs1.len, H0.out.2.1, H0.out.2.2.1]
    by_cases hlt : n < N
    · have hltz : (n : Int) < (N : Int) := by omega
      have hn0 : (0 : Int) ≤ (n : Int) := by omega
      obtain ⟨ga, rfl⟩ : ∃ g', gk = g' + 1 := ⟨gk - 1, by omega⟩
      have HF := Lib.hid (And.intro (show n + 1 ≤ N from hlt) (show N - (n + 1) < ga by omega))
      obtain ⟨⟨o, m, d, ks⟩, htt⟩ : ∃ k, L[n]? = some k := ⟨_, List.getElem?_eq_getElem (by rw [H0.out.2.2.1]; exact hlt)⟩
      have HTT := Lib.hid htt
      have z0 := ht1.at (i := n) (by rw [hl1]; exact hlt)
      obtain ⟨bn, hbn⟩ : ∃ x, hb1.getD n false = x := ⟨_, rfl⟩
      rw [hbn] at z0
      clear htt hgk HR
      cases bn
      · have HC := Lib.hid (HMD.out n wr hb1 hlt ho1 hs1.len ht1)
        obtain ⟨mb, hmb⟩ : ∃ x, madeB L hb1 n = x := ⟨_, rfl⟩
        rw [hmb] at HC
        have H1 := Lib.hid (And.intro ho1 (And.intro ht1 (And.intro hs1 (And.intro hbn (And.intro hmb hl1)))))
        clear ho1 ht1 hs1 hbn hmb hl1
        go_wp2_with fail
        refine HC.out.mono ?_
        rintro e w3 ⟨rfl, hb3⟩
        have z3 := cell_on hb3 z0
        have f3 := (H1.out.2.1.below hb3).warm n
        have ho3 : Off (fun g => g = hk) w w3 := H1.out.1.trans (Off.of_below (S := fun g => g = hk) hb3) (fun _ _ h => h) (fun _ _ h => h)
        have ht3 := H1.out.2.1.below hb3
        clear x0 x2 x33 z0 hb3 HC
        cases mb
        · have HE := Lib.hid (And.intro ho3 (And.intro ht3 (H1.out.2.2.1.not H1.out.2.2.2.1 H1.out.2.2.2.2.1)))
          clear ho3 ht3 f3
          go_wp2_with fail
          go_roundg ga
          case measure => omega
          case rel => exact ⟨n + 1, mo, rfl, by go_num, HF.out.1, HF.out.2, Lib.hid ⟨hb1, HE.out⟩⟩
        · have hset := ht3.set (n := n) (by rw [H1.out.2.2.2.2.2]; exact hlt)
          have hst := H1.out.2.2.1.set (x := n) (by rw [H1.out.2.2.2.2.2]; exact hlt) H1.out.2.2.2.1 (fun K hK => hK.made H1.out.2.2.2.2.1)
          have hof : Off (fun g => g = hk) w (w3.setCell ⟨hk, n, none⟩ (.bool true)) := ho3.trans (Off.set (S := fun g => g = hk) w3 hk n (.bool true) rfl) (fun _ _ h => h) (fun _ _ h => h)
          go_upto_region 7 with fail
          obtain ⟨wq, hwq⟩ : ∃ x, w3.setCell ⟨hk, n, none⟩ (.bool true) = x := ⟨_, rfl⟩
          rw [hwq] at hset hof
          (try rw [hwq])
          obtain ⟨hbx, hbx0⟩ : ∃ x, hb1.set n true = x := ⟨_, rfl⟩
          rw [hbx0] at hset hst
          have hbn2 : hbx.getD n false = true := by
            rw [← hbx0]
            exact (SB.set (by rw [H1.out.2.2.2.2.2]; exact hlt)).2 (.inl rfl)
          have hlx : hbx.length = N := by rw [← hbx0, List.length_set]; exact H1.out.2.2.2.2.2
          have HQ := Lib.hid (And.intro hof (And.intro hset (And.intro hst (And.intro hbn2 hlx))))
          clear hset hst hof hwq hbx0 hbn2 hlx z3 f3 ho3 ht3 H1
          obtain ⟨A9, c9, x0, x2, x33, _, x4⟩ := (HVO.out wq HQ.out.1).at
          rw [H0.out.2.2.1] at x0 x2
          obtain ⟨g9, d0, d1, d2, d3, rfl, e0, e1, e2, e3, hd⟩ := x4 n _ HTT.out
          obtain ⟨A, la, ca, K, ck, rfl, rfl, rfl, rfl, hlc, hcm, hby, hkc, hkm, _, cs, hK⟩ := tm_open hd
          have z0 : wq.cell? ⟨hk, n, none⟩ = some (.bool true) := by
            have := HQ.out.2.1.at (i := n) (by rw [HQ.out.2.2.2.2]; exact hlt)
            rwa [HQ.out.2.2.2.1] at this
          clear x4 hd
          by_cases ho4 : o = 4
          · subst ho4
            obtain ⟨hk1, hd8⟩ : ks.length = 1 ∧ d.length ≤ 8192 := by
              rcases H0.out.1.kinds HTT.out with ⟨h, _⟩ | ⟨_, h1, h2⟩ | ⟨h, _⟩ | ⟨h, _⟩
              · cases h
              · exact ⟨h1, h2⟩
              · cases h
              · cases h
            obtain ⟨k, rfl⟩ := List.length_eq_one_iff.1 hk1
            clear hk1
            obtain ⟨g, off, f0, f1, f2, f3, rfl, q0, q1, q2, q3, hkd⟩ := hK.at (i := 0) (Nat.zero_lt_one)
            rw [Nat.zero_mul, Nat.add_zero] at q0 q1 q2 q3
            have hk9 : ck ≤ 9223372036854775807 := by unfold maxLen at hkm; omega
            have e3 : wq.cell? ⟨g9, n * 4 + 3, none⟩ = some (.slice (some ⟨g, off, none⟩) 1 ck) := e3
            have hkc : 1 ≤ ck := hkc
            have HC := Lib.hid (HIS.out _ wq hbx k (.agg #[f0, f1, f2, f3]) HQ.out.1 HQ.out.2.2.1.len HQ.out.2.1 ⟨_, _, _, _, rfl, hkd⟩)
            obtain ⟨key, hkey⟩ : ∃ x, isB L hbx k = x := ⟨_, rfl⟩
            rw [hkey] at HC
            have HK := Lib.hid (And.intro hkey (And.intro hlc (And.intro hcm (And.intro hby hd8))))
            clear hkey hlc hcm hby hd8 hkd hK hkm
            go_wp2_with fail
            refine HC.out.mono ?_
            rintro e w5 ⟨rfl, hb5⟩
            have x05 := cell_on hb5 x0
            have e25 := cell_on hb5 e2
            have HMN := Lib.hid (rmentions_any A la ca d n w5 (HK.out.2.2.2.1.below hb5) HK.out.2.1 HK.out.2.2.1 (by have := HK.out.2.2.2.1.1; have := HK.out.2.2.2.2; omega))
            have HB5 := Lib.hid hb5
            clear hb5 x0 x2 e0 e1 e2 e3 q0 q1 q2 q3 z0 HC
            go_wp2_with fail
            refine HMN.out.mono ?_
            rintro e w6 ⟨A3, c3, rfl, i3, ⟨l3, m3⟩, b6⟩
            have hb6 := blw HB5.out b6
            have ho6 : Off (fun g => g = hk) w w6 := HQ.out.1.trans (Off.of_below (S := fun g => g = hk) hb6) (fun _ _ h => h) (fun _ _ h => h)
            have ht6 := HQ.out.2.1.below hb6
            have h39 : c3 ≤ 9223372036854775807 := by unfold maxLen at m3; omega
            obtain ⟨mz, hmz⟩ : ∃ z, mentionsF d (n : Int) = z := ⟨_, rfl⟩
            rw [hmz] at i3 l3 ⊢
            obtain ⟨lz, hlz⟩ : ∃ l, mz.length = l := ⟨_, rfl⟩
            rw [hlz] at i3 l3 ⊢
            have H6 := Lib.hid (And.intro i3 (And.intro ho6 (And.intro ht6 (And.intro hmz hlz))))
            clear i3 m3 b6 hb6 ho6 ht6 hmz hlz HMN x05 e25 HB5
            cases key
            · have HE := Lib.hid (And.intro H6.out.2.1 (And.intro H6.out.2.2.1 (HQ.out.2.2.1.shut HQ.out.2.2.2.1 HTT.out HK.out.1)))
              go_wp2_with fail
              go_loopg [5, 9] 1 (fun gk s5 s9 wx => s5 = .bool true ∧ s9 = .int .i64 0 ∧ Hid (Off (fun g => g = hk) w wx ∧ Tru wx hk 4 hbx))
              case atStart => exact ⟨rfl, rfl, Lib.hid ⟨H6.out.2.1, H6.out.2.2.1⟩⟩
              case round =>
                obtain ⟨rfl, rfl, HX⟩ := hrel
                by_cases hz : 0 < lz
                · have hzz : (0 : Int) < (lz : Int) := by omega
                  go_wp2_with fail
                  go_roundg ga
                  case measure => omega
                  case rel => exact ⟨n + 1, true, rfl, by go_num, HF.out.1, HF.out.2, Lib.hid ⟨hbx, HX.out.1, HX.out.2, HE.out.2.2⟩⟩
                · have hzz : ¬ (0 : Int) < (lz : Int) := by omega
                  go_wp2_with fail
                  go_roundg ga
                  case measure => omega
                  case rel => exact ⟨n + 1, true, rfl, by go_num, HF.out.1, HF.out.2, Lib.hid ⟨hbx, HX.out.1, HX.out.2, HE.out.2.2⟩⟩
            · go_wp2_with fail
              go_loopg [5, 9] (lz + 1) (fun gk s5 s9 wx => ∃ (i : Nat) (mi : Bool), s5 = .bool mi ∧ s9 = .int .i64 (i : Nat) ∧ i ≤ lz ∧ lz - i < gk ∧ Hid (∃ hbi, Off (fun g => g = hk) w wx ∧ Off (fun g => g = hk) w6 wx ∧ Tru wx hk 4 hbi ∧ Stp L hb hbi mi n ∧ SB hbi n ∧ isB L hbi k = true ∧ ∀ y ∈ mz.take i, SB hbi y.toNat))
              case atStart => exact ⟨0, true, rfl, rfl, by omega, by omega, Lib.hid ⟨hbx, H6.out.2.1, Off.refl _ _, H6.out.2.2.1, HQ.out.2.2.1, HQ.out.2.2.2.1, HK.out.1, fun y hy => by simp at hy⟩⟩
              case round =>
                obtain ⟨i, mi, rfl, rfl, hi, hgk, HX⟩ := hrel
                obtain ⟨hbi, hoi, hoi6, hti, hsi, hsn, hki, hall⟩ := HX.out
                have hli : hbi.length = N := by rw [hsi.len, H0.out.2.1, H0.out.2.2.1]
                by_cases hil : i < lz
                · have hilz : (i : Int) < (lz : Int) := by omega
                  have hi0 : (0 : Int) ≤ (i : Int) := by omega
                  obtain ⟨gk', rfl⟩ : ∃ g', gk = g' + 1 := ⟨gk - 1, by omega⟩
                  have HN := Lib.hid (And.intro (show i + 1 ≤ lz from hil) (show lz - (i + 1) < gk' by omega))
                  obtain ⟨b, off6, rfl, hb6, hc⟩ := H6.out.1.2.2 (by omega)
                  have hlm : i < mz.length := by rw [H6.out.2.2.2.2]; exact hil
                  have hmem : mz.getD i 0 ∈ mz := by rw [List.getD_eq_getElem?_getD, List.getElem?_eq_getElem hlm]; exact List.getElem_mem hlm
                  have hmm : mz.getD i 0 ∈ mentionsF d (n : Int) := by rw [H6.out.2.2.2.1]; exact hmem
                  have hyb : 0 ≤ mz.getD i 0 ∧ mz.getD i 0 < (n : Int) := by
                    obtain ⟨h1, h2⟩ := (mentions_mem _ _ _).1 hmm
                    have := ((says_iff HK.out.2.2.2.1.2.1 _).1 h2).1.1
                    omega
                  obtain ⟨kx, hkx⟩ : ∃ k : Nat, mz.getD i 0 = (k : Int) := ⟨(mz.getD i 0).toNat, by omega⟩
                  have y6 := hc i hil
                  have hne := tru_ne H6.out.2.2.1 y6
                  have y0 : wr.cell? ⟨b, off6 + i, none⟩ = some (.int .i64 (mz.getD i 0)) := (cell_same (p := ⟨b, off6 + i, none⟩) (hoi6.block b hb6 hne)).trans y6
                  rw [hkx] at y0 hyb hmem
                  have hkN : kx < N := by omega
                  have hkz : (kx : Int) < (N : Int) := by omega
                  have hk00 : (0 : Int) ≤ (kx : Int) := by omega
                  have htk : mz.take (i + 1) = mz.take i ++ [(kx : Int)] := by
                    rw [List.take_succ_eq_append_getElem hlm, ← hkx, List.getD_eq_getElem?_getD, List.getElem?_eq_getElem hlm]
                    rfl
                  have zk := hti.at (i := kx) (by rw [hli]; exact hkN)
                  have fk := hti.warm kx
                  obtain ⟨bk, hbk⟩ : ∃ x, hbi.getD kx false = x := ⟨_, rfl⟩
                  rw [hbk] at zk
                  have hmk : (kx : Int) ∈ mentionsF d (n : Int) := by rw [H6.out.2.2.2.1]; exact hmem
                  have HY := Lib.hid (And.intro hoi (And.intro hoi6 (And.intro hti (And.intro hsi (And.intro hsn (And.intro hki (And.intro hall (And.intro hli (And.intro hbk (And.intro hmk htk))))))))))
                  clear hoi hoi6 hti hsi hsn hki hall hli hbk hmk htk hc hlm hmem hmm hyb hkx y6 hne hb6 hgk hi HX
                  cases bk
                  · have hset := HY.out.2.2.1.set (n := kx) (by rw [HY.out.2.2.2.2.2.2.2.1]; exact hkN)
                    have hlx : kx < hbi.length := by rw [HY.out.2.2.2.2.2.2.2.1]; exact hkN
                    have hst := HY.out.2.2.2.1.set (x := kx) hlx HY.out.2.2.2.2.2.2.2.2.1 (fun K hK => by
                      have := hK.opened HY.out.2.2.2.2.1 HTT.out HY.out.2.2.2.2.2.1 HY.out.2.2.2.2.2.2.2.2.2.1 (by omega)
                      rwa [Int.toNat_natCast] at this)
                    have hof : Off (fun g => g = hk) wr (wr.setCell ⟨hk, kx, none⟩ (.bool true)) := Off.set (S := fun g => g = hk) wr hk kx (.bool true) rfl
                    have hup : ∀ m, SB hbi m → SB (hbi.set kx true) m := fun m hm => (SB.set hlx).2 (.inr hm)
                    have hnow : SB (hbi.set kx true) kx := (SB.set hlx).2 (.inl rfl)
                    have HE := Lib.hid (And.intro (HY.out.1.trans hof (fun _ _ h => h) (fun _ _ h => h)) (And.intro (HY.out.2.1.trans hof (fun _ _ h => h) (fun _ _ h => h)) (And.intro hset (And.intro hst (And.intro (hup _ HY.out.2.2.2.2.1) (And.intro (isB_up hup HY.out.2.2.2.2.2.1) (And.intro hup hnow)))))))
                    clear hset hst hof hup hnow hlx
                    go_wp2_with fail
                    go_roundg gk'
                    case measure => omega
                    case rel => exact ⟨i + 1, true, rfl, by go_num, HN.out.1, HN.out.2, Lib.hid ⟨hbi.set kx true, HE.out.1, HE.out.2.1, HE.out.2.2.1, HE.out.2.2.2.1, HE.out.2.2.2.2.1, HE.out.2.2.2.2.2.1, fun y hy => by
                      rw [HY.out.2.2.2.2.2.2.2.2.2.2] at hy
                      rcases List.mem_append.1 hy with h | h
                      · exact HE.out.2.2.2.2.2.2.1 _ (HY.out.2.2.2.2.2.2.1 y h)
                      · rw [List.mem_singleton.1 h, Int.toNat_natCast]; exact HE.out.2.2.2.2.2.2.2⟩⟩
                  · go_wp2_with fail
                    go_roundg gk'
                    case measure => omega
                    case rel => exact ⟨i + 1, mi, rfl, by go_num, HN.out.1, HN.out.2, Lib.hid ⟨hbi, HY.out.1, HY.out.2.1, HY.out.2.2.1, HY.out.2.2.2.1, HY.out.2.2.2.2.1, HY.out.2.2.2.2.2.1, fun y hy => by
                      rw [HY.out.2.2.2.2.2.2.2.2.2.2] at hy
                      rcases List.mem_append.1 hy with h | h
                      · exact HY.out.2.2.2.2.2.2.1 y h
                      · rw [List.mem_singleton.1 h, Int.toNat_natCast]; exact HY.out.2.2.2.2.2.2.2.2.1⟩⟩
                · obtain rfl : lz = i := by omega
                  have hilz : ¬ (lz : Int) < (lz : Int) := by omega
                  have htl : mz.take lz = mz := List.take_of_length_le (by rw [H6.out.2.2.2.2]; exact Nat.le_refl _)
                  rw [htl] at hall
                  have hst := hsi.told hsn HTT.out (fun x hx => hall x (by rw [← H6.out.2.2.2.1]; exact hx))
                  have HE := Lib.hid (And.intro hoi (And.intro hti hst))
                  clear hoi hoi6 hti hsi hsn hki hall hli htl hst hgk HX
                  go_wp2_with fail
                  go_roundg ga
                  case measure => omega
                  case rel => exact ⟨n + 1, mi, rfl, by go_num, HF.out.1, HF.out.2, Lib.hid ⟨hbi, HE.out⟩⟩
          · have ho4z : ¬ (4 : Int) = o := fun h => ho4 h.symm
            have HE := Lib.hid (And.intro HQ.out.1 (And.intro HQ.out.2.1 (HQ.out.2.2.1.other HQ.out.2.2.2.1 HTT.out ho4)))
            clear hlc hcm hby hkc hkm hK x33
            go_wp2_with fail
            go_roundg ga
            case measure => omega
            case rel => exact ⟨n + 1, true, rfl, by go_num, HF.out.1, HF.out.2, Lib.hid ⟨hbx, HE.out⟩⟩
      · have HQ := Lib.hid (And.intro ho1 (And.intro ht1 (And.intro hs1 (And.intro hbn hl1))))
        clear ho1 ht1 hs1 hbn hl1
        go_upto_region 8 with fail
        clear x0 x2 x33 z0
        obtain ⟨A9, c9, x0, x2, x33, _, x4⟩ := (HVO.out wr HQ.out.1).at
        rw [H0.out.2.2.1] at x0 x2
        obtain ⟨g9, d0, d1, d2, d3, rfl, e0, e1, e2, e3, hd⟩ := x4 n _ HTT.out
        obtain ⟨A, la, ca, K, ck, rfl, rfl, rfl, rfl, hlc, hcm, hby, hkc, hkm, _, cs, hK⟩ := tm_open hd
        have z0 : wr.cell? ⟨hk, n, none⟩ = some (.bool true) := by
          have := HQ.out.2.1.at (i := n) (by rw [HQ.out.2.2.2.2]; exact hlt)
          rwa [HQ.out.2.2.2.1] at this
        clear x4 hd
        by_cases ho4 : o = 4
        · subst ho4
          obtain ⟨hk1, hd8⟩ : ks.length = 1 ∧ d.length ≤ 8192 := by
            rcases H0.out.1.kinds HTT.out with ⟨h, _⟩ | ⟨_, h1, h2⟩ | ⟨h, _⟩ | ⟨h, _⟩
            · cases h
            · exact ⟨h1, h2⟩
            · cases h
            · cases h
          obtain ⟨k, rfl⟩ := List.length_eq_one_iff.1 hk1
          clear hk1
          obtain ⟨g, off, f0, f1, f2, f3, rfl, q0, q1, q2, q3, hkd⟩ := hK.at (i := 0) (Nat.zero_lt_one)
          rw [Nat.zero_mul, Nat.add_zero] at q0 q1 q2 q3
          have hk9 : ck ≤ 9223372036854775807 := by unfold maxLen at hkm; omega
          have e3 : wr.cell? ⟨g9, n * 4 + 3, none⟩ = some (.slice (some ⟨g, off, none⟩) 1 ck) := e3
          have hkc : 1 ≤ ck := hkc
          have HC := Lib.hid (HIS.out _ wr hb1 k (.agg #[f0, f1, f2, f3]) HQ.out.1 HQ.out.2.2.1.len HQ.out.2.1 ⟨_, _, _, _, rfl, hkd⟩)
          obtain ⟨key, hkey⟩ : ∃ x, isB L hb1 k = x := ⟨_, rfl⟩
          rw [hkey] at HC
          have HK := Lib.hid (And.intro hkey (And.intro hlc (And.intro hcm (And.intro hby hd8))))
          clear hkey hlc hcm hby hd8 hkd hK hkm
          go_wp2_with fail
          refine HC.out.mono ?_
          rintro e w5 ⟨rfl, hb5⟩
          have x05 := cell_on hb5 x0
          have e25 := cell_on hb5 e2
          have HMN := Lib.hid (rmentions_any A la ca d n w5 (HK.out.2.2.2.1.below hb5) HK.out.2.1 HK.out.2.2.1 (by have := HK.out.2.2.2.1.1; have := HK.out.2.2.2.2; omega))
          have HB5 := Lib.hid hb5
          clear hb5 x0 x2 e0 e1 e2 e3 q0 q1 q2 q3 z0 HC
          go_wp2_with fail
          refine HMN.out.mono ?_
          rintro e w6 ⟨A3, c3, rfl, i3, ⟨l3, m3⟩, b6⟩
          have hb6 := blw HB5.out b6
          have ho6 : Off (fun g => g = hk) w w6 := HQ.out.1.trans (Off.of_below (S := fun g => g = hk) hb6) (fun _ _ h => h) (fun _ _ h => h)
          have ht6 := HQ.out.2.1.below hb6
          have h39 : c3 ≤ 9223372036854775807 := by unfold maxLen at m3; omega
          obtain ⟨mz, hmz⟩ : ∃ z, mentionsF d (n : Int) = z := ⟨_, rfl⟩
          rw [hmz] at i3 l3 ⊢
          obtain ⟨lz, hlz⟩ : ∃ l, mz.length = l := ⟨_, rfl⟩
          rw [hlz] at i3 l3 ⊢
          have H6 := Lib.hid (And.intro i3 (And.intro ho6 (And.intro ht6 (And.intro hmz hlz))))
          clear i3 m3 b6 hb6 ho6 ht6 hmz hlz HMN x05 e25 HB5
          cases key
          · have HE := Lib.hid (And.intro H6.out.2.1 (And.intro H6.out.2.2.1 (HQ.out.2.2.1.shut HQ.out.2.2.2.1 HTT.out HK.out.1)))
            go_wp2_with fail
            go_loopg [5, 9] 1 (fun gk s5 s9 wx => s5 = .bool mo ∧ s9 = .int .i64 0 ∧ Hid (Off (fun g => g = hk) w wx ∧ Tru wx hk 4 hb1))
            case atStart => exact ⟨rfl, rfl, Lib.hid ⟨H6.out.2.1, H6.out.2.2.1⟩⟩
            case round =>
              obtain ⟨rfl, rfl, HX⟩ := hrel
              by_cases hz : 0 < lz
              · have hzz : (0 : Int) < (lz : Int) := by omega
                go_wp2_with fail
                go_roundg ga
                case measure => omega
                case rel => exact ⟨n + 1, mo, rfl, by go_num, HF.out.1, HF.out.2, Lib.hid ⟨hb1, HX.out.1, HX.out.2, HE.out.2.2⟩⟩
              · have hzz : ¬ (0 : Int) < (lz : Int) := by omega
                go_wp2_with fail
                go_roundg ga
                case measure => omega
                case rel => exact ⟨n + 1, mo, rfl, by go_num, HF.out.1, HF.out.2, Lib.hid ⟨hb1, HX.out.1, HX.out.2, HE.out.2.2⟩⟩
          · go_wp2_with fail
            go_loopg [5, 9] (lz + 1) (fun gk s5 s9 wx => ∃ (i : Nat) (mi : Bool), s5 = .bool mi ∧ s9 = .int .i64 (i : Nat) ∧ i ≤ lz ∧ lz - i < gk ∧ Hid (∃ hbi, Off (fun g => g = hk) w wx ∧ Off (fun g => g = hk) w6 wx ∧ Tru wx hk 4 hbi ∧ Stp L hb hbi mi n ∧ SB hbi n ∧ isB L hbi k = true ∧ ∀ y ∈ mz.take i, SB hbi y.toNat))
            case atStart => exact ⟨0, mo, rfl, rfl, by omega, by omega, Lib.hid ⟨hb1, H6.out.2.1, Off.refl _ _, H6.out.2.2.1, HQ.out.2.2.1, HQ.out.2.2.2.1, HK.out.1, fun y hy => by simp at hy⟩⟩
            case round =>
              obtain ⟨i, mi, rfl, rfl, hi, hgk, HX⟩ := hrel
              obtain ⟨hbi, hoi, hoi6, hti, hsi, hsn, hki, hall⟩ := HX.out
              have hli : hbi.length = N := by rw [hsi.len, H0.out.2.1, H0.out.2.2.1]
              by_cases hil : i < lz
              · have hilz : (i : Int) < (lz : Int) := by omega
                have hi0 : (0 : Int) ≤ (i : Int) := by omega
                obtain ⟨gk', rfl⟩ : ∃ g', gk = g' + 1 := ⟨gk - 1, by omega⟩
                have HN := Lib.hid (And.intro (show i + 1 ≤ lz from hil) (show lz - (i + 1) < gk' by omega))
                obtain ⟨b, off6, rfl, hb6, hc⟩ := H6.out.1.2.2 (by omega)
                have hlm : i < mz.length := by rw [H6.out.2.2.2.2]; exact hil
                have hmem : mz.getD i 0 ∈ mz := by rw [List.getD_eq_getElem?_getD, List.getElem?_eq_getElem hlm]; exact List.getElem_mem hlm
                have hmm : mz.getD i 0 ∈ mentionsF d (n : Int) := by rw [H6.out.2.2.2.1]; exact hmem
                have hyb : 0 ≤ mz.getD i 0 ∧ mz.getD i 0 < (n : Int) := by
                  obtain ⟨h1, h2⟩ := (mentions_mem _ _ _).1 hmm
                  have := ((says_iff HK.out.2.2.2.1.2.1 _).1 h2).1.1
                  omega
                obtain ⟨kx, hkx⟩ : ∃ k : Nat, mz.getD i 0 = (k : Int) := ⟨(mz.getD i 0).toNat, by omega⟩
                have y6 := hc i hil
                have hne := tru_ne H6.out.2.2.1 y6
                have y0 : wr.cell? ⟨b, off6 + i, none⟩ = some (.int .i64 (mz.getD i 0)) := (cell_same (p := ⟨b, off6 + i, none⟩) (hoi6.block b hb6 hne)).trans y6
                rw [hkx] at y0 hyb hmem
                have hkN : kx < N := by omega
                have hkz : (kx : Int) < (N : Int) := by omega
                have hk00 : (0 : Int) ≤ (kx : Int) := by omega
                have htk : mz.take (i + 1) = mz.take i ++ [(kx : Int)] := by
                  rw [List.take_succ_eq_append_getElem hlm, ← hkx, List.getD_eq_getElem?_getD, List.getElem?_eq_getElem hlm]
                  rfl
                have zk := hti.at (i := kx) (by rw [hli]; exact hkN)
                have fk := hti.warm kx
                obtain ⟨bk, hbk⟩ : ∃ x, hbi.getD kx false = x := ⟨_, rfl⟩
                rw [hbk] at zk
                have hmk : (kx : Int) ∈ mentionsF d (n : Int) := by rw [H6.out.2.2.2.1]; exact hmem
                have HY := Lib.hid (And.intro hoi (And.intro hoi6 (And.intro hti (And.intro hsi (And.intro hsn (And.intro hki (And.intro hall (And.intro hli (And.intro hbk (And.intro hmk htk))))))))))
                clear hoi hoi6 hti hsi hsn hki hall hli hbk hmk htk hc hlm hmem hmm hyb hkx y6 hne hb6 hgk hi HX
                cases bk
                · have hset := HY.out.2.2.1.set (n := kx) (by rw [HY.out.2.2.2.2.2.2.2.1]; exact hkN)
                  have hlx : kx < hbi.length := by rw [HY.out.2.2.2.2.2.2.2.1]; exact hkN
                  have hst := HY.out.2.2.2.1.set (x := kx) hlx HY.out.2.2.2.2.2.2.2.2.1 (fun K hK => by
                    have := hK.opened HY.out.2.2.2.2.1 HTT.out HY.out.2.2.2.2.2.1 HY.out.2.2.2.2.2.2.2.2.2.1 (by omega)
                    rwa [Int.toNat_natCast] at this)
                  have hof : Off (fun g => g = hk) wr (wr.setCell ⟨hk, kx, none⟩ (.bool true)) := Off.set (S := fun g => g = hk) wr hk kx (.bool true) rfl
                  have hup : ∀ m, SB hbi m → SB (hbi.set kx true) m := fun m hm => (SB.set hlx).2 (.inr hm)
                  have hnow : SB (hbi.set kx true) kx := (SB.set hlx).2 (.inl rfl)
                  have HE := Lib.hid (And.intro (HY.out.1.trans hof (fun _ _ h => h) (fun _ _ h => h)) (And.intro (HY.out.2.1.trans hof (fun _ _ h => h) (fun _ _ h => h)) (And.intro hset (And.intro hst (And.intro (hup _ HY.out.2.2.2.2.1) (And.intro (isB_up hup HY.out.2.2.2.2.2.1) (And.intro hup hnow)))))))
                  clear hset hst hof hup hnow hlx
                  go_wp2_with fail
                  go_roundg gk'
                  case measure => omega
                  case rel => exact ⟨i + 1, true, rfl, by go_num, HN.out.1, HN.out.2, Lib.hid ⟨hbi.set kx true, HE.out.1, HE.out.2.1, HE.out.2.2.1, HE.out.2.2.2.1, HE.out.2.2.2.2.1, HE.out.2.2.2.2.2.1, fun y hy => by
                    rw [HY.out.2.2.2.2.2.2.2.2.2.2] at hy
                    rcases List.mem_append.1 hy with h | h
                    · exact HE.out.2.2.2.2.2.2.1 _ (HY.out.2.2.2.2.2.2.1 y h)
                    · rw [List.mem_singleton.1 h, Int.toNat_natCast]; exact HE.out.2.2.2.2.2.2.2⟩⟩
                · go_wp2_with fail
                  go_roundg gk'
                  case measure => omega
                  case rel => exact ⟨i + 1, mi, rfl, by go_num, HN.out.1, HN.out.2, Lib.hid ⟨hbi, HY.out.1, HY.out.2.1, HY.out.2.2.1, HY.out.2.2.2.1, HY.out.2.2.2.2.1, HY.out.2.2.2.2.2.1, fun y hy => by
                    rw [HY.out.2.2.2.2.2.2.2.2.2.2] at hy
                    rcases List.mem_append.1 hy with h | h
                    · exact HY.out.2.2.2.2.2.2.1 y h
                    · rw [List.mem_singleton.1 h, Int.toNat_natCast]; exact HY.out.2.2.2.2.2.2.2.2.1⟩⟩
              · obtain rfl : lz = i := by omega
                have hilz : ¬ (lz : Int) < (lz : Int) := by omega
                have htl : mz.take lz = mz := List.take_of_length_le (by rw [H6.out.2.2.2.2]; exact Nat.le_refl _)
                rw [htl] at hall
                have hst := hsi.told hsn HTT.out (fun x hx => hall x (by rw [← H6.out.2.2.2.1]; exact hx))
                have HE := Lib.hid (And.intro hoi (And.intro hti hst))
                clear hoi hoi6 hti hsi hsn hki hall hli htl hst hgk HX
                go_wp2_with fail
                go_roundg ga
                case measure => omega
                case rel => exact ⟨n + 1, mi, rfl, by go_num, HF.out.1, HF.out.2, Lib.hid ⟨hbi, HE.out⟩⟩
        · have ho4z : ¬ (4 : Int) = o := fun h => ho4 h.symm
          have HE := Lib.hid (And.intro HQ.out.1 (And.intro HQ.out.2.1 (HQ.out.2.2.1.other HQ.out.2.2.2.1 HTT.out ho4)))
          clear hlc hcm hby hkc hkm hK x33
          go_wp2_with fail
          go_roundg ga
          case measure => omega
          case rel => exact ⟨n + 1, mo, rfl, by go_num, HF.out.1, HF.out.2, Lib.hid ⟨hb1, HE.out⟩⟩
    · obtain rfl : N = n := by omega
      have hltz : ¬ (N : Int) < (N : Int) := by omega
      have hfin : Stp L hb hb1 mo L.length := by rw [H0.out.2.2.1]; exact hs1
      have HE := Lib.hid (And.intro ho1 (And.intro ht1 hfin))
      clear ho1 ht1 hs1 hfin hl1 HR hgk
      go_wp2_with fail
      go_ret
      exact ⟨hb1, mo, rfl, HE.out⟩
end Go.Proofs.YtlhogjigdmpokaaGreatDoor.vtc
