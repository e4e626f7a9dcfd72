/- The program's Time. -/
import Derived.Test.YtajiolcdjjkedaaDoorTxN2
namespace Go.Proofs.YtajiolcdjjkedaaDoor.txc
open Go.RowKit Go.Proofs.YtajiolcdjjkedaaDoor.txm Go.Proofs.YtajiolcdjjkedaaDoor.tlvc
set_option linter.unusedVariables false

instance (t : Int) (xs : List Int) : Decidable (OkT t xs) := by unfold OkT; infer_instance
/-- A body's time, and the error. -/
def timeN (t : Int) (xs : List Int) : Int := if OkT t xs then timeS t xs else 0
def timeE (t : Int) (xs : List Int) : Int := if OkT t xs then 0 else 32
theorem cent_bd (n : Int) : 0 ≤ cent n ∧ cent n ≤ 2805 := by unfold cent; split <;> omega
theorem flds_parts (t : Int) (xs : List Int) : ∃ c0 c1 c2 c3 c4 c5 c6, fldsOf t xs = [c0, c1, c2, c3, c4, c5, c6] ∧ (0 ≤ c0 ∧ c0 ≤ 2805) ∧ (0 ≤ c1 ∧ c1 ≤ 2805) ∧ (0 ≤ c2 ∧ c2 ≤ 2805) ∧ (0 ≤ c3 ∧ c3 ≤ 2805) ∧ (0 ≤ c4 ∧ c4 ≤ 2805) ∧ (0 ≤ c5 ∧ c5 ≤ 2805) ∧ (0 ≤ c6 ∧ c6 ≤ 2805) := by
  unfold fldsOf
  split
  · exact ⟨_, _, _, _, _, _, _, rfl, cent_bd _, pr_bd _ _, pr_bd _ _, pr_bd _ _, pr_bd _ _, pr_bd _ _, pr_bd _ _⟩
  · exact ⟨_, _, _, _, _, _, _, rfl, pr_bd _ _, pr_bd _ _, pr_bd _ _, pr_bd _ _, pr_bd _ _, pr_bd _ _, pr_bd _ _⟩

set_option maxRecDepth 100000 in
set_option maxHeartbeats 1000000 in
theorem Time_any (t : Int) (A : Option Addr) (n cap : Nat) (xs : List Int) (w : World) (hx : Bys w A n xs) (hc : n ≤ cap) (hm : cap ≤ 9223372036854775807) :
    Calls Tryd.prog 19 #[.int .u8 t, .slice A n cap] w fun e w' => e = .returned (.tuple #[.int .i64 (timeN t xs), .int .i64 (timeE t xs)]) ∧ Below w.heap.size w w' := by
  obtain ⟨c0, c1, c2, c3, c4, c5, c6, hf, b0, b1, b2, b3, b4, b5, b6⟩ := flds_parts t xs
  have hs : secAt (100 * c0 + c1) c2 c3 c4 c5 c6 = timeS t xs := by unfold timeS secOf; rw [hf]; rfl
  have hv : ints7 (fldsOf t xs) = .agg #[.int .i64 c0, .int .i64 c1, .int .i64 c2, .int .i64 c3, .int .i64 c4, .int .i64 c5, .int .i64 c6] := by rw [hf]; rfl
  have hok : OkT t xs ↔ InR (timeS t xs) ∧ tagOf (timeS t xs) = t ∧ bodyOf (timeS t xs) = xs := Iff.rfl
  obtain ⟨S, hS⟩ : ∃ S, timeS t xs = S := ⟨_, rfl⟩
  obtain ⟨N, hN⟩ : ∃ N, timeN t xs = N := ⟨_, rfl⟩
  obtain ⟨E, hE⟩ : ∃ E, timeE t xs = E := ⟨_, rfl⟩
  have hN' : (OkT t xs → N = S) ∧ (¬ OkT t xs → N = 0) := by
    rw [← hN, ← hS]; unfold timeN
    exact ⟨fun h => if_pos h, fun h => if_neg h⟩
  have hE' : (OkT t xs → E = 0) ∧ (¬ OkT t xs → E = 32) := by
    rw [← hE]; unfold timeE
    exact ⟨fun h => if_pos h, fun h => if_neg h⟩
  rw [hN, hE]
  rw [hS] at hs hok
  have HV := Lib.hid hv
  have HS := Lib.hid hs
  have HO := Lib.hid hok
  have HN := Lib.hid hN'
  have HE := Lib.hid hE'
  have hfx := hx.2.1
  clear hv hs hok hN' hE' hf hS hN hE
  go_enter Tryd.func19, Tryd.ntmps19
  go_wp2_with fail
  refine (clockOf_any _ _ _ _ _ _ hx hc hm).mono ?_
  rw [HV.out]
  rintro e w1 ⟨rfl, hb1⟩
  go_wp2_with fail
  refine (time_any _ _ _ _ _ _ _ _ b0 b1 b2 b3 b4 b5 b6).mono ?_
  rw [HS.out]
  rintro e w2 ⟨rfl, hb2⟩
  have hB2 := then_ hb1 hb2
  clear hb1 hb2 b0 b1 b2 b3 b4 b5 b6
  by_cases hr : InR S
  · obtain ⟨T, hT⟩ : ∃ T, tagOf S = T := ⟨_, rfl⟩
    obtain ⟨ys, hys⟩ : ∃ ys, bodyOf S = ys := ⟨_, rfl⟩
    have hfy := body_fit hr
    rw [hys] at hfy
    have hok2 : OkT t xs ↔ T = t ∧ ys = xs := by rw [HO.out, hT, hys]; exact ⟨fun h => h.2, fun h => ⟨hr, h⟩⟩
    have HT := Lib.hid hT
    have HY := Lib.hid hys
    clear hT hys HO
    go_wp2_with fail
    refine (putTime_in _ _ hr).mono ?_
    rw [HT.out, HY.out]
    rintro e w3 ⟨A3, c3', rfl, hh, hb3⟩
    have hB3 := then_ hB2 hb3
    have hy := hh.1
    have hx3 := hx.below hB3
    clear hB2 hb3 hh hx
    by_cases ht : T = t
    · have htb : (T != t) = false := by simp [ht]
      by_cases hxy : ys = xs
      · have hs1 : sameB ys xs = true := (sameB_iff hfy hfx).2 hxy
        have ho : OkT t xs := hok2.2 ⟨ht, hxy⟩
        have e1 := HN.out.1 ho
        have e2 := HE.out.1 ho
        have H1 := Lib.hid hs1
        clear hok2 hxy ht hs1 ho HN HE
        go_wp2_with fail
        refine (equal_any _ _ _ _ _ _ _ _ _ hy hx3).mono ?_
        rw [H1.out]
        rintro e w4 ⟨rfl, rfl⟩
        go_wp2
        go_ret2
        exact ⟨by rw [e1, e2]; rfl, hB3⟩
      · have hs1 : sameB ys xs = false := sameB_no hfy hfx hxy
        have ho : ¬ OkT t xs := fun h => hxy (hok2.1 h).2
        have e1 := HN.out.2 ho
        have e2 := HE.out.2 ho
        have H1 := Lib.hid hs1
        clear hok2 hxy ht hs1 ho HN HE
        go_wp2_with fail
        refine (equal_any _ _ _ _ _ _ _ _ _ hy hx3).mono ?_
        rw [H1.out]
        rintro e w4 ⟨rfl, rfl⟩
        go_wp2
        go_ret2
        exact ⟨by rw [e1, e2]; rfl, hB3⟩
    · have htb : (T != t) = true := by simp [ht]
      have ho : ¬ OkT t xs := fun h => ht (hok2.1 h).1
      have e1 := HN.out.2 ho
      have e2 := HE.out.2 ho
      clear hok2 ht ho HN HE
      go_wp2
      go_ret2
      exact ⟨by rw [e1, e2]; rfl, hB3⟩
  · have ho : ¬ OkT t xs := fun h => hr (HO.out.1 h).1
    have e1 := HN.out.2 ho
    have e2 := HE.out.2 ho
    have hout := out_of hr
    clear ho HN HE HO hr
    go_wp2_with fail
    refine (putTime_out _ _ hout).mono ?_
    rintro e w3 ⟨A3, c3', rfl, hh, hb3⟩
    have hB3 := then_ hB2 hb3
    clear hB2 hb3 hh
    go_wp2
    go_ret2
    exact ⟨by rw [e1, e2]; rfl, hB3⟩
end Go.Proofs.YtajiolcdjjkedaaDoor.txc
