/- There and back: what is read of what was written. Nothing here walks. What was written is read as it was. What was read is written as it stood. What was read is written as it stood: the node. Where what is wrong lies. A node one deeper, or one less deep; and cut short. Two nodes in a set. A chain of nodes, each in the next. A chain of nodes: its tags, its bytes. -/
import Derived.Test.YtaafgohaikhekaaDoorNd
import Derived.Test.YtaafgohaikhekaaDoorTb
import Derived.Test.YtaafgohaikhekaaDoorNc
namespace Go.Proofs.YtaafgohaikhekaaDoor.ndc
open Go.RowKit Go.Proofs.YtaafgohaikhekaaDoor.tlvc Go.Proofs.YtaafgohaikhekaaDoor.tlvd Go.Proofs.YtaafgohaikhekaaDoor.txc
set_option linter.unusedVariables false
set_option linter.unusedSimpArgs false
theorem putW_ok {t : Int} {xs b : List Int} (h : putW t xs = .ok b) : endlessB t = false ∧ xs.length ≤ 65535 ∧ b = putBytes t xs := by
  unfold putW putF at h
  by_cases h1 : endlessB t = true
  · rw [if_pos h1] at h; simp at h
  · rw [if_neg h1] at h
    by_cases h2 : 65535 < xs.length
    · rw [if_pos h2] at h; simp at h
    · rw [if_neg h2] at h
      simp at h
      exact ⟨by simpa using h1, by omega, h.symm⟩
theorem writeF_ok {t : Int} {b0 : List Int} {ks : List Nd} {outer : Nat} {b : List Int} (h : writeF (.mk t b0 ks) outer = .ok b) :
    aloneF t b0 outer = 0 ∧ endlessB t = false ∧ ((compB t = false ∧ ks = [] ∧ b0.length ≤ 65535 ∧ b = putBytes t b0) ∨ (compB t = true ∧ b0 = [] ∧ ∃ k, writeL ks (outer + 1) wk0 = .ok k ∧ ¬ (t = 49 ∧ k.falls = true) ∧ k.body.length ≤ 65535 ∧ b = putBytes t k.body)) := by
  unfold writeF at h
  by_cases ha : aloneF t b0 outer = 0
  · rw [if_neg (by simp [ha])] at h
    by_cases hm : misF t b0 ks.length = true
    · rw [if_pos hm] at h; cases h
    · rw [if_neg hm] at h
      by_cases hc : compB t = true
      · rw [if_pos hc] at h
        unfold misF at hm
        rw [if_pos hc] at hm
        have hb0 : b0 = [] := List.eq_nil_of_length_eq_zero (by simpa using hm)
        cases hw : writeL ks (outer + 1) wk0 with
        | no e => rw [hw] at h; simp [kresF, finW] at h
        | ok k =>
          rw [hw] at h
          unfold kresF at h
          simp only at h
          by_cases hf : t = 49 ∧ k.falls = true
          · rw [if_pos hf] at h; simp [finW] at h
          · rw [if_neg hf] at h
            unfold finW at h
            obtain ⟨h1, h2, h3⟩ := putW_ok h
            exact ⟨ha, h1, .inr ⟨hc, hb0, k, rfl, hf, h2, h3⟩⟩
      · rw [if_neg hc] at h
        unfold misF at hm
        rw [if_neg hc] at hm
        have hk : ks = [] := List.eq_nil_of_length_eq_zero (by simpa using hm)
        obtain ⟨h1, h2, h3⟩ := putW_ok h
        exact ⟨ha, h1, .inl ⟨by simpa using hc, hk, h2, h3⟩⟩
  · rw [if_pos ha] at h; cases h
theorem putBytes_pos (t : Int) (xs : List Int) : 0 < (putBytes t xs).length := by rw [put_len]; omega
theorem writeF_pos {n : Nd} {outer : Nat} {b : List Int} (h : writeF n outer = .ok b) : 0 < b.length := by
  obtain ⟨t, b0, ks⟩ := n
  rcases (writeF_ok h).2.2 with ⟨_, _, _, rfl⟩ | ⟨_, _, k, _, _, _, rfl⟩ <;> exact putBytes_pos _ _
theorem readL_back (d outer : Nat) : ∀ (ns : List Nd) (IH : ∀ n ∈ ns, ∀ b, writeF n outer = .ok b → ∀ pre post : List Int, readF d outer (pre ++ (b ++ post)) pre.length = .ok n (pre.length + b.length)) (k k' : WK), writeL ns outer k = .ok k' → k'.body.length ≤ 65535 →
    ∃ rest, k'.body = k.body ++ rest ∧ ∀ (pre : List Int) (r : RK) (f : Nat), rest.length ≤ f → r.last = k.last → r.falls = k.falls → readL (readF d outer (pre ++ rest)) (pre ++ rest) f pre.length r = .ok ⟨r.kids ++ ns, k'.last, k'.falls⟩
  | [], _, k, k', h, hl => by
    rw [writeL_nil] at h
    cases h
    refine ⟨[], by simp, fun pre r f hf h1 h2 => ?_⟩
    obtain ⟨rk, rl, rf⟩ := r
    simp only at h1 h2
    subst h1 h2
    cases f with
    | zero => simp [readL]
    | succ f => simp [readL]
  | n :: ns, IH, k, k', h, hl => by
    cases hw : writeF n outer with
    | no e => rw [writeL_no hw] at h; cases h
    | ok b =>
      rw [writeL_ok hw] at h
      obtain ⟨rest, hr, hrd⟩ := readL_back d outer ns (fun m hm => IH m (List.mem_cons_of_mem _ hm)) (k.add b) k' h hl
      have hkb : (k.add b).body = k.body ++ b := by
        unfold WK.add
        by_cases hk : k.body.length ≤ 65535
        · simp only [if_pos hk]
        · exfalso
          have : (k.add b).body = k.body := by unfold WK.add; simp only [if_neg hk]
          rw [hr, this, List.length_append] at hl
          omega
      have hpos := writeF_pos hw
      refine ⟨b ++ rest, by rw [hr, hkb, List.append_assoc], fun pre r f hf h1 h2 => ?_⟩
      rw [List.length_append] at hf
      obtain ⟨f, rfl⟩ : ∃ g, f = g + 1 := ⟨f - 1, by omega⟩
      have hone := IH n (List.mem_cons_self ..) b hw pre rest
      unfold readL
      rw [if_pos (by simp only [List.length_append]; omega), hone]
      simp only
      have hcut : ((pre ++ (b ++ rest)).take (pre.length + b.length)).drop pre.length = b := by
        rw [← List.append_assoc, ← List.length_append, List.take_left, List.drop_left]
      rw [hcut]
      have := hrd (pre ++ b) (r.add n b) f (by omega) (by unfold RK.add WK.add; rfl) (by unfold RK.add WK.add; simp only; rw [h1, h2])
      rw [List.append_assoc, List.length_append] at this
      rw [this]
      unfold RK.add
      simp
end Go.Proofs.YtaafgohaikhekaaDoor.ndc
namespace Go.Proofs.YtaafgohaikhekaaDoor.ndc
open Go.RowKit Go.Proofs.YtaafgohaikhekaaDoor.tlvc Go.Proofs.YtaafgohaikhekaaDoor.tlvd Go.Proofs.YtaafgohaikhekaaDoor.txc
set_option linter.unusedVariables false
set_option linter.unusedSimpArgs false
theorem alone_same {t : Int} (hc : compB t = true) (xs ys : List Int) (outer : Nat) : aloneF t xs outer = aloneF t ys outer := by
  have hm : mayF t xs = mayF t ys := by
    unfold mayF
    have h : ∀ u : Int, compB u = false → t ≠ u := fun u hu e => by subst e; rw [hc] at hu; cases hu
    have n5 := h 5 (by decide)
    have n3 := h 3 (by decide)
    have n12 := h 12 (by decide)
    have n19 := h 19 (by decide)
    have n22 := h 22 (by decide)
    have n27 := h 27 (by decide)
    have n1 := h 1 (by decide)
    have n2 := h 2 (by decide)
    have n6 := h 6 (by decide)
    have n23 := h 23 (by decide)
    have n24 := h 24 (by decide)
    rw [if_neg n5, if_neg n3, if_neg (by omega : ¬ (t = 12 ∨ t = 19 ∨ t = 22 ∨ t = 27)), if_neg n1, if_neg n2, if_neg n6, if_neg (by omega : ¬ (t = 23 ∨ t = 24))]
    rw [if_neg n5, if_neg n3, if_neg (by omega : ¬ (t = 12 ∨ t = 19 ∨ t = 22 ∨ t = 27)), if_neg n1, if_neg n2, if_neg n6, if_neg (by omega : ¬ (t = 23 ∨ t = 24))]
  unfold aloneF
  rw [hm]
theorem put_split (t : Int) (xs : List Int) : ∃ hd, putBytes t xs = hd ++ xs ∧ hd.length = 1 + (hdr xs.length).length := by
  refine ⟨(putBytes t xs).take (1 + (hdr xs.length).length), ?_, ?_⟩
  · have h := List.take_append_drop (1 + (hdr xs.length).length) (putBytes t xs)
    rw [put_drop t xs _ rfl] at h
    exact h.symm
  · rw [List.length_take, put_len]; omega
theorem readF_put (d outer : Nat) (t : Int) (xs pre post : List Int) (he : endlessB t = false) (hl : xs.length ≤ 65535) (ha : aloneF t xs outer = 0) :
    ∃ hd : List Int, putBytes t xs = hd ++ xs ∧ readF (d + 1) outer (pre ++ (putBytes t xs ++ post)) pre.length = if compB t = false then .ok (.mk t xs []) (pre.length + (putBytes t xs).length)
      else match readL (readF d (outer + 1) ((pre ++ hd) ++ xs)) ((pre ++ hd) ++ xs) xs.length (pre ++ hd).length rk0 with
        | .bad a e => .bad a e
        | .ok k => if t = 49 ∧ k.falls = true then .bad pre.length 42 else .ok (.mk t [] k.kids) (pre.length + (putBytes t xs).length) := by
  obtain ⟨hd, h1, h2⟩ := put_split t xs
  refine ⟨hd, h1, ?_⟩
  have hh : headF ((pre ++ (putBytes t xs ++ post)).drop pre.length) = (0, t, ((hd.length : Nat) : Int), (xs.length : Int)) := by
    rw [List.drop_left, headF_put t xs post he hl, h2]
  conv => lhs; unfold readF
  simp only [hh]
  have e1 : (((hd.length : Nat) : Int)).toNat = hd.length := by simp
  have e2 : (((xs.length : Nat) : Int)).toNat = xs.length := by simp
  rw [e1, e2]
  have hz : pre ++ (putBytes t xs ++ post) = ((pre ++ hd) ++ xs) ++ post := by rw [h1]; simp
  have hT : pre.length + hd.length + xs.length = ((pre ++ hd) ++ xs).length := by simp; omega
  have hF : pre.length + hd.length = (pre ++ hd).length := by simp
  have htk : (pre ++ (putBytes t xs ++ post)).take (pre.length + hd.length + xs.length) = (pre ++ hd) ++ xs := by rw [hz, hT, List.take_left]
  have hbd : ((pre ++ hd) ++ xs).drop (pre.length + hd.length) = xs := by rw [hF, List.drop_left]
  have hend : pre.length + hd.length + xs.length = pre.length + (putBytes t xs).length := by rw [h1]; simp; omega
  have hsub : pre.length + hd.length + xs.length - (pre.length + hd.length) = xs.length := by omega
  rw [htk, hbd, ha, hsub, hend, hF]
  rw [if_neg (by simp), if_neg (by simp)]
  rfl
theorem read_back : ∀ (m : Nat) (n : Nd) (outer d : Nat), szN n ≤ m → d + outer = 32 → ∀ b, writeF n outer = .ok b → ∀ pre post : List Int, readF (d + 1) outer (pre ++ (b ++ post)) pre.length = .ok n (pre.length + b.length)
  | 0, .mk t b0 ks, outer, d, h, _ => absurd h (by show ¬ szL ks + 1 ≤ 0; omega)
  | m + 1, .mk t b0 ks, outer, d, h, hd => fun b hb pre post => by
    obtain ⟨ha, he, hcase⟩ := writeF_ok hb
    have hsz : szL ks + 1 ≤ m + 1 := h
    rcases hcase with ⟨hc, rfl, hl, rfl⟩ | ⟨hc, rfl, k, hw, hf, hl, rfl⟩
    · obtain ⟨hd', _, hr⟩ := readF_put d outer t b0 pre post he hl ha
      rw [hr, if_pos hc]
    · have hou : outer < 32 := by
        rcases Nat.lt_or_ge outer 32 with h | h
        · exact h
        · unfold aloneF at ha; rw [if_pos h] at ha; cases ha
      obtain ⟨d, rfl⟩ : ∃ g, d = g + 1 := ⟨d - 1, by omega⟩
      obtain ⟨hd', _, hr⟩ := readF_put (d + 1) outer t k.body pre post he hl (by rw [alone_same hc k.body [] outer]; exact ha)
      rw [hr, if_neg (by rw [hc]; simp)]
      obtain ⟨rest, h1, h2⟩ := readL_back (d + 1) (outer + 1) ks (fun n hn b hb pre post => read_back m n (outer + 1) d (by have := szL_mem hn; omega) (by omega) b hb pre post) wk0 k hw hl
      have h1 : k.body = rest := h1
      rw [← h1] at h2
      rw [h2 (pre ++ hd') rk0 k.body.length (Nat.le_refl _) rfl rfl]
      simp only
      rw [if_neg hf]
      rfl
/-- What is read of a right node's bytes is the node. -/
theorem read_all_back {n : Nd} {b : List Int} (h : writeF n 0 = .ok b) : readAllF b = .ok n b.length := by
  have := read_back _ n 0 32 (Nat.le_refl _) rfl b h [] []
  simp at this
  unfold readAllF
  rw [this]
  simp
end Go.Proofs.YtaafgohaikhekaaDoor.ndc
namespace Go.Proofs.YtaafgohaikhekaaDoor.ndc
open Go.RowKit Go.Proofs.YtaafgohaikhekaaDoor.tlvc Go.Proofs.YtaafgohaikhekaaDoor.tlvd Go.Proofs.YtaafgohaikhekaaDoor.txc
set_option linter.unusedVariables false
set_option linter.unusedSimpArgs false
theorem writeL_back (d outer : Nat) (ys : List Int) (IH : ∀ n next nx, next ≤ ys.length → readF d outer ys next = .ok n nx → writeF n outer = .ok ((ys.take nx).drop next) ∧ next < nx ∧ nx ≤ ys.length) :
    ∀ (f next : Nat) (r r' : RK), next ≤ ys.length → ys.length - next ≤ f → readL (readF d outer ys) ys f next r = .ok r' →
    ∃ ns, r'.kids = r.kids ++ ns ∧ ∀ k : WK, k.last = r.last → k.falls = r.falls → k.body.length + (ys.length - next) ≤ 65535 → writeL ns outer k = .ok ⟨k.body ++ ys.drop next, r'.last, r'.falls⟩
  | 0, next, r, r', hn, hf, h => by
    unfold readL at h
    cases h
    obtain rfl : next = ys.length := by omega
    refine ⟨[], by simp, fun k h1 h2 _ => ?_⟩
    rw [writeL_nil, List.drop_length, List.append_nil, ← h1, ← h2]
  | f + 1, next, r, r', hn, hf, h => by
    unfold readL at h
    by_cases hlt : next < ys.length
    · rw [if_pos hlt] at h
      cases hr : readF d outer ys next with
      | bad a e => rw [hr] at h; cases h
      | ok n nx =>
        rw [hr] at h
        simp only at h
        obtain ⟨hw, h1, h2⟩ := IH n next nx hn hr
        obtain ⟨ns, hk, hwl⟩ := writeL_back d outer ys IH f nx (r.add n ((ys.take nx).drop next)) r' h2 (by omega) h
        refine ⟨n :: ns, by rw [hk]; simp [RK.add], fun k e1 e2 hb => ?_⟩
        rw [writeL_ok hw]
        have hlb : ((ys.take nx).drop next).length = nx - next := by simp; omega
        have hadd : k.add ((ys.take nx).drop next) = ⟨k.body ++ (ys.take nx).drop next, (ys.take nx).drop next, k.falls || behind k.last ((ys.take nx).drop next)⟩ := by unfold WK.add; rw [if_pos (by omega)]
        rw [hadd]
        have := hwl ⟨k.body ++ (ys.take nx).drop next, (ys.take nx).drop next, k.falls || behind k.last ((ys.take nx).drop next)⟩ rfl (by unfold RK.add; simp only; rw [e1, e2]) (by simp only [List.length_append, hlb]; omega)
        rw [this]
        simp only [List.append_assoc]
        have hcat : (ys.take nx).drop next ++ ys.drop nx = ys.drop next := by
          have := List.take_append_drop nx ys
          conv => rhs; rw [← this]
          rw [List.drop_append_of_le_length (by simp; omega)]
        rw [hcat]
    · rw [if_neg hlt] at h
      cases h
      obtain rfl : next = ys.length := by omega
      refine ⟨[], by simp, fun k h1 h2 _ => ?_⟩
      rw [writeL_nil, List.drop_length, List.append_nil, ← h1, ← h2]
end Go.Proofs.YtaafgohaikhekaaDoor.ndc
namespace Go.Proofs.YtaafgohaikhekaaDoor.ndc
open Go.RowKit Go.Proofs.YtaafgohaikhekaaDoor.tlvc Go.Proofs.YtaafgohaikhekaaDoor.tlvd Go.Proofs.YtaafgohaikhekaaDoor.txc
set_option linter.unusedVariables false
set_option linter.unusedSimpArgs false
theorem putW_put {t : Int} {xs : List Int} (h1 : endlessB t = false) (h2 : xs.length ≤ 65535) : putW t xs = .ok (putBytes t xs) := by
  have hp : putF t xs = (putBytes t xs, 0) := by unfold putF; rw [if_neg (by rw [h1]; simp), if_neg (by omega)]
  unfold putW
  rw [hp]
  rfl
theorem write_back : ∀ (d outer : Nat) (xs : List Int) (at_ nx : Nat) (n : Nd), d + outer = 32 → Fit xs → at_ ≤ xs.length → readF (d + 1) outer xs at_ = .ok n nx →
    writeF n outer = .ok ((xs.take nx).drop at_) ∧ at_ < nx ∧ nx ≤ xs.length
  | d, outer, xs, at_, nx, n, hdo, hf, hat, h => by
    unfold readF at h
    rcases hh : headF (xs.drop at_) with ⟨e0, T, hz, sz⟩
    rw [hh] at h
    simp only at h
    by_cases h0 : e0 = 0
    · subst h0
      obtain ⟨he, hT, hn, sn, rfl, rfl, hn2, hs2, hlen, hput⟩ := put_head (xs.drop at_) T hz sz (fun x hx => hf x (List.mem_of_mem_drop hx)) hh
      rw [if_neg (by simp)] at h
      simp only [Int.toNat_natCast] at h
      rw [List.length_drop] at hlen
      have hbody : ((xs.drop at_).drop hn).take sn = (xs.take (at_ + hn + sn)).drop (at_ + hn) := by
        rw [List.drop_drop, List.drop_take]
        congr 1
        omega
      have hall : (xs.drop at_).take (hn + sn) = (xs.take (at_ + hn + sn)).drop at_ := by
        rw [List.drop_take]
        congr 1
        omega
      rw [hbody, hall] at hput
      have hbl : ((xs.take (at_ + hn + sn)).drop (at_ + hn)).length = sn := by simp; omega
      obtain ⟨body, hbd⟩ : ∃ x, (xs.take (at_ + hn + sn)).drop (at_ + hn) = x := ⟨_, rfl⟩
      rw [hbd] at h hput hbl
      by_cases ha : aloneF T body outer = 0
      · rw [if_neg (by simp [ha])] at h
        by_cases hc : compB T = false
        · rw [if_pos hc] at h
          cases h
          refine ⟨?_, by omega, by omega⟩
          unfold writeF
          rw [if_neg (by simp [ha]), if_neg (by unfold misF; rw [hc]; simp), if_neg (by rw [hc]; simp), putW_put he (by omega), hput]
        · have hc : compB T = true := by simpa using hc
          rw [if_neg (by rw [hc]; simp)] at h
          have hou : outer < 32 := by
            rcases Nat.lt_or_ge outer 32 with h | h
            · exact h
            · unfold aloneF at ha; rw [if_pos h] at ha; cases ha
          cases hr : readL (readF d (outer + 1) (xs.take (at_ + hn + sn))) (xs.take (at_ + hn + sn)) (at_ + hn + sn - (at_ + hn)) (at_ + hn) rk0 with
          | bad a e => rw [hr] at h; cases h
          | ok k =>
            rw [hr] at h
            simp only at h
            by_cases hfa : T = 49 ∧ k.falls = true
            · rw [if_pos hfa] at h; cases h
            · rw [if_neg hfa] at h
              cases h
              refine ⟨?_, by omega, by omega⟩
              obtain ⟨d, rfl⟩ : ∃ g, d = g + 1 := ⟨d - 1, by omega⟩
              have hyl : (xs.take (at_ + hn + sn)).length = at_ + hn + sn := by simp; omega
              have hfy : Fit (xs.take (at_ + hn + sn)) := fun x hx => hf x (List.mem_of_mem_take hx)
              obtain ⟨ns, hk, hwl⟩ := writeL_back (d + 1) (outer + 1) (xs.take (at_ + hn + sn)) (fun n next nx hle hrd => write_back d (outer + 1) _ next nx n (by omega) hfy hle hrd) _ _ _ _ (by omega) (by omega) hr
              have hk : k.kids = ns := hk
              have hw := hwl wk0 rfl rfl (by show 0 + _ ≤ _; omega)
              rw [hbd] at hw
              have hw : writeL ns (outer + 1) wk0 = .ok ⟨body, k.last, k.falls⟩ := hw
              rw [hk]
              unfold writeF
              rw [if_neg (by rw [alone_same hc [] body outer, ha]; simp), if_neg (by unfold misF; rw [hc]; simp), if_pos hc, hw]
              unfold kresF
              simp only
              rw [if_neg hfa]
              unfold finW
              simp only
              rw [putW_put he (by omega), hput]
      · rw [if_pos ha] at h; cases h
    · rw [if_pos h0] at h; cases h
/-- What is read is printed as it stood. -/
theorem write_all_back {xs : List Int} {n : Nd} {nx : Nat} (hf : Fit xs) (h : readAllF xs = .ok n nx) : writeF n 0 = .ok xs ∧ nx = xs.length := by
  unfold readAllF at h
  cases hr : readF 33 0 xs 0 with
  | bad a e => rw [hr] at h; cases h
  | ok m k =>
    rw [hr] at h
    simp only at h
    by_cases hlt : k < xs.length
    · rw [if_pos hlt] at h; cases h
    · rw [if_neg hlt] at h
      cases h
      obtain ⟨h1, h2, h3⟩ := write_back 32 0 xs 0 nx n rfl hf (Nat.zero_le _) hr
      obtain rfl : nx = xs.length := by omega
      refine ⟨?_, rfl⟩
      rw [h1, List.take_length, List.drop_zero]
end Go.Proofs.YtaafgohaikhekaaDoor.ndc
namespace Go.Proofs.YtaafgohaikhekaaDoor.ndc
open Go.RowKit Go.Proofs.YtaafgohaikhekaaDoor.tlvc Go.Proofs.YtaafgohaikhekaaDoor.tlvd Go.Proofs.YtaafgohaikhekaaDoor.txc
set_option linter.unusedVariables false
set_option linter.unusedSimpArgs false
theorem readL_place {rec : Nat → RR} {ys : List Int} (hok : ∀ n next nx, next ≤ ys.length → rec next = .ok n nx → nx ≤ ys.length) (hbad : ∀ next a e, next ≤ ys.length → rec next = .bad a e → (0 ≤ a ∧ a ≤ ys.length) ∧ e ≠ 0) :
    ∀ (f next : Nat) (r : RK) (a e : Int), next ≤ ys.length → readL rec ys f next r = .bad a e → (0 ≤ a ∧ a ≤ ys.length) ∧ e ≠ 0
  | 0, next, r, a, e, hn, h => by unfold readL at h; cases h
  | f + 1, next, r, a, e, hn, h => by
    unfold readL at h
    by_cases hlt : next < ys.length
    · rw [if_pos hlt] at h
      cases hr : rec next with
      | bad a' e' => rw [hr] at h; cases h; exact hbad next a e hn hr
      | ok n nx =>
        rw [hr] at h
        exact readL_place hok hbad f nx _ a e (hok n next nx hn hr) h
    · rw [if_neg hlt] at h; cases h
theorem readF_place : ∀ (d outer : Nat) (xs : List Int) (at_ : Nat) (a e : Int), d + outer = 32 → Fit xs → at_ ≤ xs.length → readF (d + 1) outer xs at_ = .bad a e → (0 ≤ a ∧ a ≤ xs.length) ∧ e ≠ 0
  | d, outer, xs, at_, a, e, hdo, hf, hat, h => by
    have hz : (0 : Int) ≤ (at_ : Int) ∧ (at_ : Int) ≤ (xs.length : Int) := by omega
    unfold readF at h
    rcases hh : headF (xs.drop at_) with ⟨e0, T, hz', sz⟩
    rw [hh] at h
    simp only at h
    by_cases h0 : e0 = 0
    · subst h0
      obtain ⟨he, hT, hn, sn, rfl, rfl, hn2, hs2, hlen, hput⟩ := put_head (xs.drop at_) T hz' sz (fun x hx => hf x (List.mem_of_mem_drop hx)) hh
      rw [if_neg (by simp)] at h
      simp only [Int.toNat_natCast] at h
      rw [List.length_drop] at hlen
      obtain ⟨body, hbd⟩ : ∃ x, (xs.take (at_ + hn + sn)).drop (at_ + hn) = x := ⟨_, rfl⟩
      rw [hbd] at h
      by_cases ha : aloneF T body outer = 0
      · rw [if_neg (by simp [ha])] at h
        by_cases hc : compB T = false
        · rw [if_pos hc] at h; cases h
        · rw [if_neg hc] at h
          have hou : outer < 32 := by
            rcases Nat.lt_or_ge outer 32 with h | h
            · exact h
            · unfold aloneF at ha; rw [if_pos h] at ha; cases ha
          obtain ⟨d, rfl⟩ : ∃ g, d = g + 1 := ⟨d - 1, by omega⟩
          have hyl : (xs.take (at_ + hn + sn)).length = at_ + hn + sn := by simp; omega
          have hfy : Fit (xs.take (at_ + hn + sn)) := fun x hx => hf x (List.mem_of_mem_take hx)
          cases hr : readL (readF (d + 1) (outer + 1) (xs.take (at_ + hn + sn))) (xs.take (at_ + hn + sn)) (at_ + hn + sn - (at_ + hn)) (at_ + hn) rk0 with
          | bad a' e' =>
            rw [hr] at h
            cases h
            have := readL_place (fun n next nx hle hrd => (write_back d (outer + 1) _ next nx n (by omega) hfy hle hrd).2.2) (fun next a e hle hrd => readF_place d (outer + 1) _ next a e (by omega) hfy hle hrd) _ _ _ a e (by omega) hr
            refine ⟨⟨this.1.1, ?_⟩, this.2⟩
            have h3 := this.1.2
            rw [hyl] at h3
            omega
          | ok k =>
            rw [hr] at h
            simp only at h
            by_cases hfa : T = 49 ∧ k.falls = true
            · rw [if_pos hfa] at h; cases h; exact ⟨hz, by decide⟩
            · rw [if_neg hfa] at h; cases h
      · rw [if_pos ha] at h; cases h; exact ⟨hz, ha⟩
    · rw [if_pos h0] at h; cases h; exact ⟨hz, h0⟩
/-- The place of what is wrong lies within the bytes, and there is an error. -/
theorem read_all_place {xs : List Int} {a e : Int} (hf : Fit xs) (h : readAllF xs = .bad a e) : (0 ≤ a ∧ a ≤ xs.length) ∧ e ≠ 0 := by
  unfold readAllF at h
  cases hr : readF 33 0 xs 0 with
  | bad a' e' =>
    rw [hr] at h
    cases h
    exact readF_place 32 0 xs 0 a e rfl hf (Nat.zero_le _) hr
  | ok m k =>
    rw [hr] at h
    simp only at h
    by_cases hlt : k < xs.length
    · rw [if_pos hlt] at h
      cases h
      exact ⟨by omega, by decide⟩
    · rw [if_neg hlt] at h; cases h
/-- An error of the writer is one. -/
theorem errW_ne : ∀ (m : Nat) (n : Nd) (outer : Nat) (e : Int), szN n ≤ m → writeF n outer = .no e → e ≠ 0
  | 0, .mk t b ks, outer, e, h, _ => absurd h (by show ¬ szL ks + 1 ≤ 0; omega)
  | m + 1, .mk t b ks, outer, e, hs, h => by
    have hsz : szL ks + 1 ≤ m + 1 := hs
    have hput : ∀ {xs : List Int} {e : Int}, putW t xs = .no e → e ≠ 0 := fun {xs e} h => by
      unfold putW at h
      by_cases h0 : (putF t xs).2 = 0
      · rw [if_pos h0] at h; cases h
      · rw [if_neg h0] at h; cases h; exact h0
    have hL : ∀ (ns : List Nd) (k : WK) (e : Int), (∀ n ∈ ns, n ∈ ks) → writeL ns (outer + 1) k = .no e → e ≠ 0 := by
      intro ns
      induction ns with
      | nil => intro k e _ h; rw [writeL_nil] at h; cases h
      | cons n ns ih =>
        intro k e hm h
        cases hw : writeF n (outer + 1) with
        | no e' =>
          rw [writeL_no hw] at h
          cases h
          have := szL_mem (hm n (List.mem_cons_self ..))
          exact errW_ne m n (outer + 1) e (by omega) hw
        | ok b => rw [writeL_ok hw] at h; exact ih _ e (fun n hn => hm n (List.mem_cons_of_mem _ hn)) h
    unfold writeF at h
    by_cases ha : aloneF t b outer = 0
    · rw [if_neg (by simp [ha])] at h
      by_cases hm : misF t b ks.length = true
      · rw [if_pos hm] at h; cases h; decide
      · rw [if_neg hm] at h
        by_cases hc : compB t = true
        · rw [if_pos hc] at h
          cases hw : writeL ks (outer + 1) wk0 with
          | no e' => rw [hw] at h; simp [kresF, finW] at h; subst h; exact hL ks wk0 _ (fun n hn => hn) hw
          | ok k =>
            rw [hw] at h
            unfold kresF at h
            simp only at h
            by_cases hf : t = 49 ∧ k.falls = true
            · rw [if_pos hf] at h; simp [finW] at h; subst h; decide
            · rw [if_neg hf] at h
              unfold finW at h
              exact hput h
        · rw [if_neg hc] at h; exact hput h
    · rw [if_pos ha] at h; cases h; exact ha
end Go.Proofs.YtaafgohaikhekaaDoor.ndc
namespace Go.Proofs.YtaafgohaikhekaaDoor.ndc
open Go.RowKit Go.Proofs.YtaafgohaikhekaaDoor.tlvc Go.Proofs.YtaafgohaikhekaaDoor.tlvd Go.Proofs.YtaafgohaikhekaaDoor.txc
set_option linter.unusedVariables false
set_option linter.unusedSimpArgs false
theorem alone_up {t : Int} {b : List Int} {o : Nat} (h : aloneF t b o = 0) : aloneF t b (o + 1) = 0 ∨ aloneF t b (o + 1) = 41 := by
  unfold aloneF at h ⊢
  by_cases h1 : 32 ≤ o + 1
  · rw [if_pos h1]; exact .inr rfl
  · rw [if_neg h1]
    rw [if_neg (by omega)] at h
    exact .inl h
theorem alone_down {t : Int} {b : List Int} {o : Nat} (h : aloneF t b (o + 1) = 0) : aloneF t b o = 0 := by
  unfold aloneF at h ⊢
  by_cases h1 : 32 ≤ o + 1
  · rw [if_pos h1] at h; cases h
  · rw [if_neg h1] at h
    rw [if_neg (by omega)]
    exact h
/-- A right node one deeper: as it stood, or too deep. -/
theorem write_up : ∀ (m : Nat) (n : Nd) (o : Nat) (b : List Int), szN n ≤ m → writeF n o = .ok b → writeF n (o + 1) = .ok b ∨ writeF n (o + 1) = .no 41
  | 0, .mk t b ks, o, _, h, _ => absurd h (by show ¬ szL ks + 1 ≤ 0; omega)
  | m + 1, .mk t b0 ks, o, b, hs, h => by
    have hsz : szL ks + 1 ≤ m + 1 := hs
    have hL : ∀ (ns : List Nd) (k k' : WK), (∀ n ∈ ns, n ∈ ks) → writeL ns (o + 1) k = .ok k' → writeL ns (o + 2) k = .ok k' ∨ writeL ns (o + 2) k = .no 41 := by
      intro ns
      induction ns with
      | nil => intro k k' _ h; rw [writeL_nil] at h ⊢; exact .inl h
      | cons n ns ih =>
        intro k k' hm h
        cases hw : writeF n (o + 1) with
        | no e' => rw [writeL_no hw] at h; cases h
        | ok b =>
          rw [writeL_ok hw] at h
          have := szL_mem (hm n (List.mem_cons_self ..))
          rcases write_up m n (o + 1) b (by omega) hw with h1 | h1
          · rw [writeL_ok h1]
            exact ih _ k' (fun n hn => hm n (List.mem_cons_of_mem _ hn)) h
          · exact .inr (writeL_no h1)
    unfold writeF at h ⊢
    by_cases ha : aloneF t b0 o = 0
    · rw [if_neg (by simp [ha])] at h
      rcases alone_up ha with hu | hu
      · rw [if_neg (by simp [hu])]
        by_cases hm : misF t b0 ks.length = true
        · rw [if_pos hm] at h; cases h
        · rw [if_neg hm] at h ⊢
          by_cases hc : compB t = true
          · rw [if_pos hc] at h ⊢
            cases hw : writeL ks (o + 1) wk0 with
            | no e' => rw [hw] at h; simp [kresF, finW] at h
            | ok k =>
              rcases hL ks wk0 k (fun n hn => hn) hw with h1 | h1
              · rw [h1]; rw [hw] at h; exact .inl h
              · rw [h1]; exact .inr rfl
          · rw [if_neg hc] at h ⊢
            exact .inl h
      · rw [if_pos (by rw [hu]; decide), hu]
        exact .inr rfl
    · rw [if_pos ha] at h; cases h
/-- A right node less deep: as it stood. -/
theorem write_down : ∀ (m : Nat) (n : Nd) (o : Nat) (b : List Int), szN n ≤ m → writeF n (o + 1) = .ok b → writeF n o = .ok b
  | 0, .mk t b ks, o, _, h, _ => absurd h (by show ¬ szL ks + 1 ≤ 0; omega)
  | m + 1, .mk t b0 ks, o, b, hs, h => by
    have hsz : szL ks + 1 ≤ m + 1 := hs
    have hL : ∀ (ns : List Nd) (k k' : WK), (∀ n ∈ ns, n ∈ ks) → writeL ns (o + 2) k = .ok k' → writeL ns (o + 1) k = .ok k' := by
      intro ns
      induction ns with
      | nil => intro k k' _ h; rw [writeL_nil] at h ⊢; exact h
      | cons n ns ih =>
        intro k k' hm h
        cases hw : writeF n (o + 2) with
        | no e' => rw [writeL_no hw] at h; cases h
        | ok b =>
          rw [writeL_ok hw] at h
          have := szL_mem (hm n (List.mem_cons_self ..))
          rw [writeL_ok (write_down m n (o + 1) b (by omega) hw)]
          exact ih _ k' (fun n hn => hm n (List.mem_cons_of_mem _ hn)) h
    unfold writeF at h ⊢
    by_cases ha : aloneF t b0 (o + 1) = 0
    · rw [if_neg (by simp [ha])] at h
      rw [if_neg (by simp [alone_down ha])]
      by_cases hm : misF t b0 ks.length = true
      · rw [if_pos hm] at h; cases h
      · rw [if_neg hm] at h ⊢
        by_cases hc : compB t = true
        · rw [if_pos hc] at h ⊢
          cases hw : writeL ks (o + 1 + 1) wk0 with
          | no e' => rw [hw] at h; simp [kresF, finW] at h
          | ok k => rw [hL ks wk0 k (fun n hn => hn) hw]; rw [hw] at h; exact h
        · rw [if_neg hc] at h ⊢
          exact h
    · rw [if_pos ha] at h; cases h
/-- Cut short a right node's bytes are refused. -/
theorem read_cut {n : Nd} {b : List Int} (h : writeF n 0 = .ok b) (m : Nat) (hm : m < b.length) : ∃ a e, readAllF (b.take m) = .bad a e ∧ e ≠ 0 := by
  obtain ⟨t, b0, ks⟩ := n
  obtain ⟨_, he, hcase⟩ := writeF_ok h
  obtain ⟨xs, hl, rfl⟩ : ∃ xs : List Int, xs.length ≤ 65535 ∧ b = putBytes t xs := by
    rcases hcase with ⟨_, _, h1, h2⟩ | ⟨_, _, k, _, _, h1, h2⟩
    · exact ⟨_, h1, h2⟩
    · exact ⟨_, h1, h2⟩
  have hh := headF_cut t xs m he hl hm
  refine ⟨0, 12, ?_, by decide⟩
  unfold readAllF
  have : readF 33 0 ((putBytes t xs).take m) 0 = .bad 0 12 := by
    unfold readF
    simp only [List.drop_zero, hh]
    rw [if_pos (by decide)]
    rfl
  rw [this]
end Go.Proofs.YtaafgohaikhekaaDoor.ndc
namespace Go.Proofs.YtaafgohaikhekaaDoor.ndc
open Go.RowKit Go.Proofs.YtaafgohaikhekaaDoor.tlvc Go.Proofs.YtaafgohaikhekaaDoor.tlvd Go.Proofs.YtaafgohaikhekaaDoor.txc
set_option linter.unusedVariables false
set_option linter.unusedSimpArgs false
theorem alone_set (b : List Int) : aloneF 49 b 0 = 0 := by
  unfold aloneF
  rw [if_neg (by decide), if_neg (by decide), show mayF 49 b = true from rfl]
  rfl
theorem behind_nil (x : List Int) : behind [] x = false := by
  unfold behind
  rw [show Lib.bytesOf [] = [] from rfl]
  cases Lib.bytesOf x <;> rfl
theorem write_set (a b : Nd) : writeF (.mk 49 [] [a, b]) 0 = finW 49 (kresF 49 (writeL [a, b] 1 wk0)) := by
  conv => lhs; unfold writeF
  rw [if_neg (by rw [alone_set]; decide), if_neg (by unfold misF; rw [if_pos (by decide)]; simp), if_pos (by decide)]
/-- One of them lies too deep. -/
theorem set_deep {a b : Nd} {x y : List Int} (ha : writeF a 1 = .ok x ∨ writeF a 1 = .no 41) (hb : writeF b 1 = .ok y ∨ writeF b 1 = .no 41) (h : writeF a 1 = .no 41 ∨ writeF b 1 = .no 41) :
    errW (writeF (.mk 49 [] [a, b]) 0) = 41 := by
  rw [write_set]
  rcases ha with h1 | h1
  · rcases hb with h2 | h2
    · rcases h with h | h
      · rw [h1] at h; cases h
      · rw [h2] at h; cases h
    · rw [writeL_ok h1, writeL_no h2]; rfl
  · rw [writeL_no h1]; rfl
/-- Neither does. -/
theorem set_two {a b : Nd} {x y : List Int} (ha : writeF a 1 = .ok x) (hb : writeF b 1 = .ok y) (hl : x.length + y.length ≤ 65535) :
    errW (writeF (.mk 49 [] [a, b]) 0) = if behind x y = true then 42 else 0 := by
  rw [write_set, writeL_ok ha, writeL_ok hb, writeL_nil]
  have h1 : (wk0.add x).add y = ⟨x ++ y, y, (behind [] x || behind x y)⟩ := by
    have e1 : wk0.add x = ⟨x, x, behind [] x⟩ := by unfold wk0 WK.add; simp
    rw [e1]
    unfold WK.add
    simp only
    rw [if_pos (by omega)]
  have h0 : behind [] x = false := behind_nil x
  rw [h1, h0]
  unfold kresF
  simp only [Bool.false_or]
  by_cases hq : behind x y = true
  · rw [if_pos ⟨trivial, hq⟩, if_pos hq]; rfl
  · rw [if_neg (fun h => hq h.2), if_neg hq]
    unfold finW
    simp only
    rw [putW_put (by decide) (by simp; omega)]
    rfl
end Go.Proofs.YtaafgohaikhekaaDoor.ndc
namespace Go.Proofs.YtaafgohaikhekaaDoor.ndc
open Go.RowKit Go.Proofs.YtaafgohaikhekaaDoor.tlvc Go.Proofs.YtaafgohaikhekaaDoor.tlvd Go.Proofs.YtaafgohaikhekaaDoor.txc
set_option linter.unusedVariables false
set_option linter.unusedSimpArgs false
def bN (T : Int) : Nat → List Int
  | 0 => putBytes 5 []
  | i + 1 => putBytes T (bN T i)
def nN (T : Int) : Nat → Nd
  | 0 => .mk 5 [] []
  | i + 1 => .mk T [] [nN T i]
theorem bN_len (T : Int) : ∀ i, (bN T i).length ≤ 2 + 4 * i
  | 0 => by show (putBytes 5 []).length ≤ _; decide
  | i + 1 => by
    have h := bN_len T i
    show (putBytes T (bN T i)).length ≤ _
    rw [put_len]
    have hh := hdr_length ((bN T i).length : Int)
    split at hh
    · omega
    · split at hh <;> omega
theorem alone_null (o : Nat) : aloneF 5 [] o = if 32 ≤ o then 41 else 0 := by
  unfold aloneF
  rw [show mayF 5 [] = true from rfl]
  by_cases h : 32 ≤ o
  · rw [if_pos h, if_pos h]
  · rw [if_neg h, if_neg h]; rfl
theorem deep_write {T : Int} (hc : compB T = true) (he : endlessB T = false) (h49 : T ≠ 49) (ha : ∀ o, aloneF T [] o = if 32 ≤ o then 41 else 0) :
    ∀ i o : Nat, i ≤ 64 → writeF (nN T i) o = if 32 ≤ o + i then .no 41 else .ok (bN T i)
  | 0, o, _ => by
    show writeF (.mk 5 [] []) o = _
    unfold writeF
    rw [alone_null]
    by_cases h : 32 ≤ o
    · rw [if_pos h, if_pos (by decide), if_pos (by omega)]
    · rw [if_neg h, if_neg (by decide), if_neg (by decide), if_neg (by decide), if_neg (by omega), putW_put (by decide) (by simp)]
      rfl
  | i + 1, o, hi => by
    show writeF (.mk T [] [nN T i]) o = _
    unfold writeF
    rw [ha]
    have ih := deep_write hc he h49 ha i (o + 1) (by omega)
    have hl := bN_len T i
    by_cases h : 32 ≤ o
    · rw [if_pos h, if_pos (by decide), if_pos (by omega)]
    · rw [if_neg h, if_neg (by decide), if_neg (by unfold misF; rw [hc]; simp), if_pos hc]
      by_cases h2 : 32 ≤ o + (i + 1)
      · rw [if_pos (by omega)] at ih
        rw [if_pos h2, writeL_no ih]
        rfl
      · rw [if_neg (by omega)] at ih
        rw [if_neg h2, writeL_ok ih, writeL_nil]
        have e1 : wk0.add (bN T i) = ⟨bN T i, bN T i, behind [] (bN T i)⟩ := by unfold wk0 WK.add; simp
        rw [e1]
        unfold kresF
        simp only
        rw [if_neg (fun h => h49 h.1)]
        unfold finW
        simp only
        rw [putW_put he (by omega)]
        rfl
theorem readF_out (d outer : Nat) (t : Int) (xs pre post : List Int) (he : endlessB t = false) (hl : xs.length ≤ 65535) (ha : aloneF t xs outer = 41) :
    readF (d + 1) outer (pre ++ (putBytes t xs ++ post)) pre.length = .bad pre.length 41 := by
  obtain ⟨hd, h1, h2⟩ := put_split t xs
  have hh : headF ((pre ++ (putBytes t xs ++ post)).drop pre.length) = (0, t, ((hd.length : Nat) : Int), (xs.length : Int)) := by
    rw [List.drop_left, headF_put t xs post he hl, h2]
  conv => lhs; unfold readF
  simp only [hh, Int.toNat_natCast]
  have hz : pre ++ (putBytes t xs ++ post) = ((pre ++ hd) ++ xs) ++ post := by rw [h1]; simp
  have htk : (pre ++ (putBytes t xs ++ post)).take (pre.length + hd.length + xs.length) = (pre ++ hd) ++ xs := by
    rw [hz, show pre.length + hd.length + xs.length = ((pre ++ hd) ++ xs).length by simp; omega, List.take_left]
  have hbd : ((pre ++ hd) ++ xs).drop (pre.length + hd.length) = xs := by rw [show pre.length + hd.length = (pre ++ hd).length by simp, List.drop_left]
  rw [htk, hbd, ha, if_neg (by simp), if_pos (by decide)]
theorem deep_read {T : Int} (hc : compB T = true) (he : endlessB T = false) (ha : ∀ o, aloneF T [] o = if 32 ≤ o then 41 else 0) :
    ∀ i o d : Nat, i ≤ 64 → d + o = 32 → 32 ≤ o + i → ∀ pre post : List Int, ∃ a, readF (d + 1) o (pre ++ (bN T i ++ post)) pre.length = .bad a 41
  | 0, o, d, _, hd, ho, pre, post => ⟨_, readF_out d o 5 [] pre post (by decide) (by simp) (by rw [alone_null, if_pos (by omega)])⟩
  | i + 1, o, d, hi, hd, ho, pre, post => by
    have hl := bN_len T i
    by_cases h : 32 ≤ o
    · exact ⟨_, readF_out d o T (bN T i) pre post he (by omega) (by rw [alone_same hc _ [] o, ha, if_pos h])⟩
    · obtain ⟨d, rfl⟩ : ∃ g, d = g + 1 := ⟨d - 1, by omega⟩
      obtain ⟨hd', _, hr⟩ := readF_put (d + 1) o T (bN T i) pre post he (by omega) (by rw [alone_same hc _ [] o, ha, if_neg h])
      obtain ⟨a, hb⟩ := deep_read hc he ha i (o + 1) d (by omega) (by omega) (by omega) (pre ++ hd') []
      rw [List.append_nil] at hb
      have hpos : 0 < (bN T i).length := by cases i <;> exact putBytes_pos _ _
      refine ⟨a, ?_⟩
      show readF (d + 1 + 1) o (pre ++ (putBytes T (bN T i) ++ post)) pre.length = _
      rw [hr, if_neg (by rw [hc]; simp)]
      obtain ⟨f, hf⟩ : ∃ f, (bN T i).length = f + 1 := ⟨(bN T i).length - 1, by omega⟩
      rw [hf]
      unfold readL
      rw [if_pos (by simp only [List.length_append]; omega), hb]
theorem deep_all {T : Int} (hc : compB T = true) (he : endlessB T = false) (ha : ∀ o, aloneF T [] o = if 32 ≤ o then 41 else 0) (i : Nat) (hi : i ≤ 64) (h : 32 ≤ i) : ∃ a, readAllF (bN T i) = .bad a 41 := by
  obtain ⟨a, hr⟩ := deep_read hc he ha i 0 32 hi rfl (by omega) [] []
  simp at hr
  refine ⟨a, ?_⟩
  unfold readAllF
  rw [hr]
end Go.Proofs.YtaafgohaikhekaaDoor.ndc
namespace Go.Proofs.YtaafgohaikhekaaDoor.ndc
open Go.RowKit Go.Proofs.YtaafgohaikhekaaDoor.tlvc Go.Proofs.YtaafgohaikhekaaDoor.tlvd Go.Proofs.YtaafgohaikhekaaDoor.txc
set_option linter.unusedVariables false
set_option linter.unusedSimpArgs false
theorem may_big {T : Int} (h : 64 ≤ T) (xs : List Int) : mayF T xs = true := by
  unfold mayF
  rw [if_neg (by omega), if_neg (by omega), if_neg (by omega), if_neg (by omega), if_neg (by omega), if_neg (by omega), if_neg (by omega), if_neg (by omega)]
  simpa using h
theorem alone_big {T : Int} (h : 64 ≤ T) (hm : T % 32 ≠ 31) (xs : List Int) (o : Nat) : aloneF T xs o = if 32 ≤ o then 41 else 0 := by
  unfold aloneF
  rw [if_neg hm, may_big h]
  rfl
theorem comp_big {k : Int} (h0 : 0 ≤ k) (h1 : k ≤ 31) : compB (k + 160) = true := by
  unfold compB
  simp only [decide_eq_true_eq]
  omega
/-- A tag that has no end is refused, printed and read. -/
theorem endless_write {T : Int} (hm : T % 32 = 31) (ks : List Nd) : writeF (.mk T [] ks) 0 = .no 11 := by
  have ha : aloneF T [] 0 = 11 := by
    unfold aloneF
    rw [if_neg (by omega), if_pos hm]
  unfold writeF
  rw [if_pos (by rw [ha]; decide), ha]
theorem endless_read {T : Int} (he : endlessB T = true) (f : Int) (r : List Int) : readAllF (T :: f :: r) = .bad 0 11 := by
  unfold readAllF
  have : readF 33 0 (T :: f :: r) 0 = .bad 0 11 := by
    unfold readF
    simp only [List.drop_zero, headF_tag T f r he]
    rw [if_pos (by decide)]
    rfl
  rw [this]
theorem put_short {T : Int} {b : List Int} (h : b.length < 128) : putBytes T b = T :: (b.length : Int) :: b := by
  unfold putBytes hdr
  rw [if_pos (by omega)]
  rfl
theorem put_mid {T : Int} {b : List Int} (h : 128 ≤ b.length) (h2 : b.length ≤ 255) : putBytes T b = T :: 129 :: (b.length : Int) :: b := by
  unfold putBytes hdr
  rw [if_neg (by omega), if_pos (by omega)]
  rfl
end Go.Proofs.YtaafgohaikhekaaDoor.ndc
