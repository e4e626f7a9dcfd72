/- The document's parse, whatever the bytes; its Parse. -/
import Derived.Test.YtaafgohaikhekaaDoorNdPi
namespace Go.Proofs.YtaafgohaikhekaaDoor.ndc
open Go.RowKit Go.Proofs.YtaafgohaikhekaaDoor.tlvc Go.Proofs.YtaafgohaikhekaaDoor.tlvd Go.Proofs.YtaafgohaikhekaaDoor.txc
set_option linter.unusedVariables false
set_option linter.unusedSimpArgs false
theorem parses_all : ∀ d outer : Nat, d + outer = 32 → Parses (d + 1) outer
  | d, outer, hdo => by
    intro A n c en xs at_ w hx hc hm hen hat hT
    have hl : (xs.take en).length = en := by rw [List.length_take, hx.1]; omega
    by_cases hh : (headF ((xs.take en).drop at_)).1 = 0
    · obtain ⟨t, F, T, hs, eF, eT, et⟩ := spot_of (hx.upto hen).2.1 (by rw [hl]; exact hat) hh
      rw [readF_spot hh eF eT et]
      have hTe : T ≤ en := by have := hs.hi; omega
      have e1 : (xs.take en).take T = xs.take T := by rw [List.take_take]; congr 1; omega
      rw [e1]
      by_cases ho : 32 ≤ outer ∨ tagF t ≠ 0
      · have ha : aloneF t ((xs.take T).drop F) outer = if 32 ≤ outer then 41 else tagF t := by
          rw [aloneF_own]
          by_cases h32 : 32 ≤ outer
          · rw [if_pos h32, if_pos h32]
          · rw [if_neg h32, if_neg h32]
            exact own_tag (by rcases ho with h | h; exact absurd h h32; exact h)
        rw [ha]
        have hne : (if 32 ≤ outer then 41 else tagF t) ≠ 0 := by
          by_cases h32 : 32 ≤ outer
          · rw [if_pos h32]; decide
          · rw [if_neg h32]; rcases ho with h | h; exact absurd h h32; exact h
        rw [if_pos hne]
        exact parse_own d outer A n c en xs at_ F T t w hx hc hm hen hs ho
      · have h32 : ¬ 32 ≤ outer := fun h => ho (.inl h)
        have ht0 : tagF t = 0 := Decidable.byContradiction fun h => ho (.inr h)
        have ha : aloneF t ((xs.take T).drop F) outer = ownF t ((xs.take T).drop F) := by rw [aloneF_own, if_neg h32]
        rw [ha]
        by_cases hcp : compB t = false
        · have hpl := parse_plain outer A n c en xs at_ F T t w hx hc hm hen hs hT h32 ht0 hcp
          have hc6 : ¬ 32 ≤ t % 64 := by unfold compB at hcp; simpa using hcp
          have hown := own_plain (t := t) (xs := (xs.take T).drop F) ⟨by omega, by omega⟩
          rw [if_pos ht0] at hown
          rw [← hown]
          unfold bodyF
          by_cases hb : bodyB t ((xs.take T).drop F) = true
          · rw [if_pos hb] at hpl ⊢
            rw [if_neg (by simp), if_pos hcp]
            exact hpl
          · rw [if_neg hb] at hpl ⊢
            rw [if_pos (by decide)]
            exact hpl
        · have hcp1 : compB t = true := by simpa using hcp
          have hc6 : 32 ≤ t % 64 := by unfold compB at hcp1; simpa using hcp1
          have hown := own_comp (t := t) (xs := (xs.take T).drop F) hc6
          rw [← hown, ht0, if_neg (by decide), if_neg hcp]
          obtain ⟨d', rfl⟩ : ∃ d', d = d' + 1 := ⟨d - 1, by omega⟩
          exact parse_comp d' outer (parses_all d' (outer + 1) (by omega)) (by omega) A n c en xs at_ F T t w hx hc hm hen hs hT ht0 hcp1
    · have hr : readF (d + 1) outer (xs.take en) at_ = .bad at_ (headF ((xs.take en).drop at_)).1 := by
        show (if _ then _ else _) = _
        rw [if_pos hh]
      exact parse_bad d outer A n c en xs at_ w hx hc hm hat hen hh
set_option maxRecDepth 100000 in
set_option maxHeartbeats 8000000 in
theorem refParse_any (A : Option Addr) (n c : Nat) (xs : List Int) (w : World) (hx : Bys w A n xs) (hc : n ≤ c) (hm : c ≤ maxLen) (hT : Tabs w) :
    Calls Tryd.prog 15 #[.slice A n c] w (PPost w (readAllF xs)) := by
  have hl := hx.1
  have hb0 := Box0.start w
  have hrd := parses_all 32 0 rfl A n c n xs 0 (w.alloc (.cells #[.int .u8 0, .slice none 0 0, .slice none 0 0] 25)) (hx.below hb0.bel) hc hm (Nat.le_refl _) (Nat.zero_le _) (hT.below hb0.bel)
  have e1 : xs.take n = xs := List.take_of_length_le (by omega)
  rw [e1] at hrd
  have hpl := fun a e h => readF_place 32 0 xs 0 a e rfl hx.2.1 (Nat.zero_le _) h
  have hnx := fun nd nx h => readF_next 33 0 xs 0 nd nx hx.2.1 (Nat.zero_le _) h
  obtain ⟨R, hR⟩ : ∃ x, readF 33 0 xs 0 = x := ⟨_, rfl⟩
  rw [hR] at hrd hpl hnx
  obtain ⟨RES, hRES⟩ : ∃ x, readAllF xs = x := ⟨_, rfl⟩
  rw [hRES]
  unfold readAllF at hRES
  rw [hR, hl] at hRES
  have HR := Lib.hid hrd
  have HRES := Lib.hid hRES
  have HP := Lib.hid hpl
  have HN := Lib.hid hnx
  clear hrd hR hRES hx hpl hnx
  go_enter Tryd.func15, Tryd.ntmps15
  go_wp2_with fail
  refine HR.out.mono ?_
  rintro e w2 ⟨hb2, hpost⟩
  clear HR
  cases R with
  | bad a er =>
    simp only at hpost
    subst hpost
    have her : er ≠ 0 := (HP.out a er rfl).2
    have herb : (er == 0) = false := by simpa using her
    have herc : (er != 0) = true := by simpa using her
    have hE : RES = .bad a er := HRES.out.symm
    subst hE
    have hb3 := (hb0.below hb2).below (below_new w2 (.cells #[.int .u8 0, .slice none 0 0, .slice none 0 0] 25))
    obtain ⟨d0, d1, d2⟩ := hb3.cells
    obtain ⟨g0, g1, g2⟩ := hb3.free
    obtain ⟨r0, r1, r2, hbl⟩ := hb3.set (.int .u8 0) (.slice none 0 0) (.slice none 0 0)
    have HE := Lib.hid hbl
    clear hb3 hbl hb2 hb0 HRES HP HN
    go_wp2
    refine bodyPost_ret (v := .tuple #[.agg #[.int .u8 0, .slice none 0 0, .slice none 0 0], .int .i64 a, .int .i64 er]) ?_ rfl ⟨HE.out, rfl⟩
    simp [results, Tryd.results15, go_sem, r0, r1, r2]
  | ok nd nx =>
    obtain ⟨v, rfl, c0, c1, c2, rfl, hnd⟩ := hpost
    obtain ⟨tk, Ak, lak, cak, Kk, lkk, ckk, ec0, ec1, ec2⟩ := hnd.shape
    subst ec0 ec1 ec2
    have hb3 := (hb0.below hb2).below (below_new w2 (.cells #[.int .u8 tk, .slice Ak lak cak, .slice Kk lkk ckk] 25))
    have hnn := (HN.out nd nx rfl).2
    obtain ⟨d0, d1, d2⟩ := hb3.cells
    obtain ⟨g0, g1, g2⟩ := hb3.free
    by_cases hlt : nx < n
    · have hltz : (nx : Int) < (n : Int) := by omega
      have hE : RES = .bad nx 44 := HRES.out.symm.trans (if_pos hlt)
      obtain ⟨r0, r1, r2, hbl⟩ := hb3.set (.int .u8 0) (.slice none 0 0) (.slice none 0 0)
      have HE := Lib.hid hbl
      clear hb3 hbl hb2 hb0 HRES HP HN hnd
      subst hE
      go_wp2
      refine bodyPost_ret (v := .tuple #[.agg #[.int .u8 0, .slice none 0 0, .slice none 0 0], .int .i64 nx, .int .i64 44]) ?_ rfl ⟨HE.out, rfl⟩
      simp [results, Tryd.results15, go_sem, r0, r1, r2]
    · have hltz : ¬ (nx : Int) < (n : Int) := by omega
      have hE : RES = .ok nd nx := HRES.out.symm.trans (if_neg hlt)
      have hnd3 := NdC.below (w' := w2.alloc (.cells #[.int .u8 tk, .slice Ak lak cak, .slice Kk lkk ckk] 25)) (below_new w2 _) _ _ _ _ hnd
      obtain ⟨r0, r1, r2, hbl⟩ := hb3.set (.int .u8 tk) (.slice Ak lak cak) (.slice Kk lkk ckk)
      have hfin := hb3.fin (NdC.mono (B' := fun g => w.heap.size < g) (fun g hg => by have h1 := hb0.size; have hg : _ ≤ g := hg; show w.heap.size < g; omega) _ _ _ _ hnd3)
      have HE := Lib.hid (And.intro hbl hfin)
      clear hb3 hbl hb2 hb0 HRES HP HN hnd hnd3 hfin
      subst hE
      go_wp2
      refine bodyPost_ret (v := .tuple #[.agg #[.int .u8 tk, .slice Ak lak cak, .slice Kk lkk ckk], .int .i64 0, .int .i64 0]) ?_ rfl ⟨HE.out.1, _, rfl, HE.out.2⟩
      simp [results, Tryd.results15, go_sem, r0, r1, r2]
end Go.Proofs.YtaafgohaikhekaaDoor.ndc
