/- The law TextsBack of warderlaw03 answers true for all numbers of seconds, every tag and every body, and leaves its arguments as they were; no condition but that the library's two tables are as its text lays them. -/
import Derived.Test.YtajiolcdjjkedaaDoorCards
import Derived.Test.YtajiolcdjjkedaaDoorTie
import Derived.WalkKit
import Derived.ProofKit
import Derived.OpenShut
import Derived.ChangeOld
import Derived.Below
import Derived.SizedLaws
import Derived.Test.YtajiolcdjjkedaaDoorTlvO
import Derived.Test.YtajiolcdjjkedaaDoorTxY
import Derived.Test.YtajiolcdjjkedaaDoorTxW
import Derived.Test.YtajiolcdjjkedaaDoorTxB3
import Derived.Test.YtajiolcdjjkedaaDoorTxN3
namespace Go.Proofs.YtajiolcdjjkedaaDoor.textsBack
open Go.ChangeShapes Go.WideShapes Go.ChangeAt Go.RowKit
set_option linter.unusedVariables false

theorem own : ownKnob Tryd.prog.godebug = none := by kernel_rfl
theorem laidOut : laidOutB Tryd.prog = true := by kernel_rfl

open Go.Proofs.YtajiolcdjjkedaaDoor.tlvc Go.Proofs.YtajiolcdjjkedaaDoor.txc Go.Proofs.YtajiolcdjjkedaaDoor.txm
theorem less_walk {xs ys : List Int} (h : Fit xs) (k : Fit ys) : Op.bytesLess (strOfNums xs).toList (strOfNums ys).toList = lessZ xs ys := by
  rw [Lib.strOfNums_toList, Lib.strOfNums_toList]; exact less_bytes h k

set_option maxRecDepth 100000 in
set_option maxHeartbeats 16000000 in
theorem walk (a0 : Int) (a1 : Int) (a2 : Int) (a3 : Option Addr) (len3 cap3 : Nat) (x3 : List Int) (w : World) (w0 : (Lit.int .i64 a0).wf = true) (w1 : (Lit.int .i64 a1).wf = true) (w2 : (Lit.int .u8 a2).wf = true) (w3 : tlvc.Bys w a3 len3 x3) (l3 : len3 ≤ cap3) (r3 : cap3 ≤ 140737488351232) (hT : txc.Tabs w) :
    Calls Tryd.prog 7 #[.int .i64 a0, .int .i64 a1, .int .u8 a2, .slice a3 len3 cap3] w fun e w' => e = .returned (.bool true) ∧ Below w.heap.size w w' := by
  go_enter Tryd.func7, Tryd.ntmps7
  go_wp2_with fail
  refine (head_any _).mono ?_
  rintro e wa ⟨rfl, hba⟩
  by_cases h0 : InR a0
  · have back := okT_back h0
    obtain ⟨bk1, bk2⟩ := back
    have tN : timeN (tagOf a0) (bodyOf a0) = a0 := by unfold timeN; rw [if_pos bk1, bk2]
    have tE : timeE (tagOf a0) (bodyOf a0) = 0 := if_pos bk1
    have hf0 := body_fit h0
    have ht0 : tagOf a0 = 23 ∨ tagOf a0 = 24 := by unfold tagOf; split <;> simp
    obtain ⟨T0, hT0⟩ : ∃ T, tagOf a0 = T := ⟨_, rfl⟩
    obtain ⟨xs, hxs⟩ : ∃ xs, bodyOf a0 = xs := ⟨_, rfl⟩
    rw [hT0, hxs] at tN tE
    rw [hT0] at ht0
    rw [hxs] at hf0
    have HT0 := Lib.hid hT0
    have HX := Lib.hid hxs
    have HN := Lib.hid tN
    have HE := Lib.hid tE
    clear bk1 bk2 hT0 hxs tN tE
    have hr0 : -631152000 ≤ a0 := h0.1
    have hr1 : a0 ≤ 253402300799 := h0.2
    go_wp2_with fail
    refine (putTime_in _ _ h0).mono ?_
    rw [HT0.out, HX.out]
    rintro e wb ⟨A, c, rfl, hh0, hb0⟩
    have hB0 := then_ hba hb0
    have hcm : c ≤ 9223372036854775807 := hh0.2.2.1
    have hcl := hh0.2.1
    have hx0 := hh0.1
    clear hba hb0 hh0
    by_cases h1 : InR a1
    · have hf1 := body_fit h1
      have hls : T0 = 24 → tagOf a1 = 24 → lessZ xs (bodyOf a1) = decide (a0 < a1) := fun e1 e2 => by rw [← HX.out]; exact less_body h0 h1 (HT0.out.trans e1) e2
      obtain ⟨T1, hT1⟩ : ∃ T, tagOf a1 = T := ⟨_, rfl⟩
      obtain ⟨ys, hys⟩ : ∃ ys, bodyOf a1 = ys := ⟨_, rfl⟩
      rw [hT1, hys] at hls
      rw [hys] at hf1
      have HT1 := Lib.hid hT1
      have HY := Lib.hid hys
      have HLS := Lib.hid hls
      clear hT1 hys hls
      go_wp2_with fail
      refine (putTime_in _ _ h1).mono ?_
      rw [HT1.out, HY.out]
      rintro e wc ⟨A1, c1, rfl, hh1, hb1⟩
      have hB1 := then_ hB0 hb1
      have hx1 := hx0.below hb1
      have hy1 := hh1.1
      clear hB0 hb1 hx0 hh1
      go_wp2_with fail
      refine (Time_any _ _ _ _ _ _ hx1 hcl hcm).mono ?_
      rw [HN.out, HE.out]
      rintro e wd0 ⟨rfl, hbd0⟩
      have hB := then_ hB1 hbd0
      have hx2 := hx1.below hbd0
      have hy2 := hy1.below hbd0
      clear hB1 hbd0 hx1 hy1 h0 h1
      by_cases hts : T0 = T1
      · subst hts
        rcases ht0 with rfl | rfl
        · clear hx2 hy2 HLS
          go_wp2_with fail
          refine (Time_any _ _ _ _ _ _ (w3.below hB) l3 (by omega)).mono ?_
          by_cases hk : OkT a2 x3
          · have kN : timeN a2 x3 = timeS a2 x3 := if_pos hk
            have kE : timeE a2 x3 = 0 := if_pos hk
            obtain ⟨kr, kt, kb⟩ := hk
            obtain ⟨N, hN⟩ : ∃ N, timeS a2 x3 = N := ⟨_, rfl⟩
            rw [kN, kE, hN]
            rw [hN] at kr kt kb
            have KT := Lib.hid kt
            have KB := Lib.hid kb
            clear kN kE hN kt kb
            rintro e wd ⟨rfl, hbd⟩
            have hBd := then_ hB hbd
            clear hB hbd
            go_wp2_with fail
            refine (putTime_in _ _ kr).mono ?_
            rw [KT.out, KB.out]
            rintro e we ⟨A9, c9, rfl, hh9, hbe⟩
            have hBe := then_ hBd hbe
            have s1 := str_now hh9.1 c9
            have s2 := str_now (w3.below hBe) cap3
            clear hBd hbe hh9
            go_wp2
            go_ret
            exact ⟨rfl, hBe⟩
          · have kN : timeN a2 x3 = 0 := if_neg hk
            have kE : timeE a2 x3 = 32 := if_neg hk
            rw [kN, kE]
            clear kN kE hk
            rintro e wd ⟨rfl, hbd⟩
            have hBd := then_ hB hbd
            clear hB hbd
            go_wp2
            go_ret
            exact ⟨rfl, hBd⟩
        · have hl := (less_walk hf0 hf1).trans (HLS.out rfl rfl)
          have s3 := str_now hx2 c
          have s4 := str_now hy2 c1
          clear hx2 hy2 HLS
          by_cases hab : a0 < a1
          · have hl2 : Op.bytesLess (strOfNums xs).toList (strOfNums ys).toList = true := by rw [hl]; simp [hab]
            clear hl
            go_wp2_with fail
            refine (Time_any _ _ _ _ _ _ (w3.below hB) l3 (by omega)).mono ?_
            by_cases hk : OkT a2 x3
            · have kN : timeN a2 x3 = timeS a2 x3 := if_pos hk
              have kE : timeE a2 x3 = 0 := if_pos hk
              obtain ⟨kr, kt, kb⟩ := hk
              obtain ⟨N, hN⟩ : ∃ N, timeS a2 x3 = N := ⟨_, rfl⟩
              rw [kN, kE, hN]
              rw [hN] at kr kt kb
              have KT := Lib.hid kt
              have KB := Lib.hid kb
              clear kN kE hN kt kb
              rintro e wd ⟨rfl, hbd⟩
              have hBd := then_ hB hbd
              clear hB hbd
              go_wp2_with fail
              refine (putTime_in _ _ kr).mono ?_
              rw [KT.out, KB.out]
              rintro e we ⟨A9, c9, rfl, hh9, hbe⟩
              have hBe := then_ hBd hbe
              have s1 := str_now hh9.1 c9
              have s2 := str_now (w3.below hBe) cap3
              clear hBd hbe hh9
              go_wp2
              go_ret
              exact ⟨rfl, hBe⟩
            · have kN : timeN a2 x3 = 0 := if_neg hk
              have kE : timeE a2 x3 = 32 := if_neg hk
              rw [kN, kE]
              clear kN kE hk
              rintro e wd ⟨rfl, hbd⟩
              have hBd := then_ hB hbd
              clear hB hbd
              go_wp2
              go_ret
              exact ⟨rfl, hBd⟩
          · have hl2 : Op.bytesLess (strOfNums xs).toList (strOfNums ys).toList = false := by rw [hl]; simp [hab]
            clear hl
            go_wp2_with fail
            refine (Time_any _ _ _ _ _ _ (w3.below hB) l3 (by omega)).mono ?_
            by_cases hk : OkT a2 x3
            · have kN : timeN a2 x3 = timeS a2 x3 := if_pos hk
              have kE : timeE a2 x3 = 0 := if_pos hk
              obtain ⟨kr, kt, kb⟩ := hk
              obtain ⟨N, hN⟩ : ∃ N, timeS a2 x3 = N := ⟨_, rfl⟩
              rw [kN, kE, hN]
              rw [hN] at kr kt kb
              have KT := Lib.hid kt
              have KB := Lib.hid kb
              clear kN kE hN kt kb
              rintro e wd ⟨rfl, hbd⟩
              have hBd := then_ hB hbd
              clear hB hbd
              go_wp2_with fail
              refine (putTime_in _ _ kr).mono ?_
              rw [KT.out, KB.out]
              rintro e we ⟨A9, c9, rfl, hh9, hbe⟩
              have hBe := then_ hBd hbe
              have s1 := str_now hh9.1 c9
              have s2 := str_now (w3.below hBe) cap3
              clear hBd hbe hh9
              go_wp2
              go_ret
              exact ⟨rfl, hBe⟩
            · have kN : timeN a2 x3 = 0 := if_neg hk
              have kE : timeE a2 x3 = 32 := if_neg hk
              rw [kN, kE]
              clear kN kE hk
              rintro e wd ⟨rfl, hbd⟩
              have hBd := then_ hB hbd
              clear hB hbd
              go_wp2
              go_ret
              exact ⟨rfl, hBd⟩
      · have htb : (T0 == T1) = false := by simpa using hts
        clear hts HLS hx2 hy2
        go_wp2_with fail
        refine (Time_any _ _ _ _ _ _ (w3.below hB) l3 (by omega)).mono ?_
        by_cases hk : OkT a2 x3
        · have kN : timeN a2 x3 = timeS a2 x3 := if_pos hk
          have kE : timeE a2 x3 = 0 := if_pos hk
          obtain ⟨kr, kt, kb⟩ := hk
          obtain ⟨N, hN⟩ : ∃ N, timeS a2 x3 = N := ⟨_, rfl⟩
          rw [kN, kE, hN]
          rw [hN] at kr kt kb
          have KT := Lib.hid kt
          have KB := Lib.hid kb
          clear kN kE hN kt kb
          rintro e wd ⟨rfl, hbd⟩
          have hBd := then_ hB hbd
          clear hB hbd
          go_wp2_with fail
          refine (putTime_in _ _ kr).mono ?_
          rw [KT.out, KB.out]
          rintro e we ⟨A9, c9, rfl, hh9, hbe⟩
          have hBe := then_ hBd hbe
          have s1 := str_now hh9.1 c9
          have s2 := str_now (w3.below hBe) cap3
          clear hBd hbe hh9
          go_wp2
          go_ret
          exact ⟨rfl, hBe⟩
        · have kN : timeN a2 x3 = 0 := if_neg hk
          have kE : timeE a2 x3 = 32 := if_neg hk
          rw [kN, kE]
          clear kN kE hk
          rintro e wd ⟨rfl, hbd⟩
          have hBd := then_ hB hbd
          clear hB hbd
          go_wp2
          go_ret
          exact ⟨rfl, hBd⟩
    · go_wp2_with fail
      refine (putTime_out _ _ (out_of h1)).mono ?_
      rintro e wc ⟨A1, c1, rfl, hh1, hb1⟩
      have hB1 := then_ hB0 hb1
      have hx1 := hx0.below hb1
      clear hB0 hb1 hx0 hh1 h1
      go_wp2_with fail
      refine (Time_any _ _ _ _ _ _ hx1 hcl hcm).mono ?_
      rw [HN.out, HE.out]
      rintro e wd0 ⟨rfl, hbd0⟩
      have hB := then_ hB1 hbd0
      clear hB1 hbd0 hx1 h0
      go_wp2_with fail
      refine (Time_any _ _ _ _ _ _ (w3.below hB) l3 (by omega)).mono ?_
      by_cases hk : OkT a2 x3
      · have kN : timeN a2 x3 = timeS a2 x3 := if_pos hk
        have kE : timeE a2 x3 = 0 := if_pos hk
        obtain ⟨kr, kt, kb⟩ := hk
        obtain ⟨N, hN⟩ : ∃ N, timeS a2 x3 = N := ⟨_, rfl⟩
        rw [kN, kE, hN]
        rw [hN] at kr kt kb
        have KT := Lib.hid kt
        have KB := Lib.hid kb
        clear kN kE hN kt kb
        rintro e wd ⟨rfl, hbd⟩
        have hBd := then_ hB hbd
        clear hB hbd
        go_wp2_with fail
        refine (putTime_in _ _ kr).mono ?_
        rw [KT.out, KB.out]
        rintro e we ⟨A9, c9, rfl, hh9, hbe⟩
        have hBe := then_ hBd hbe
        have s1 := str_now hh9.1 c9
        have s2 := str_now (w3.below hBe) cap3
        clear hBd hbe hh9
        go_wp2
        go_ret
        exact ⟨rfl, hBe⟩
      · have kN : timeN a2 x3 = 0 := if_neg hk
        have kE : timeE a2 x3 = 32 := if_neg hk
        rw [kN, kE]
        clear kN kE hk
        rintro e wd ⟨rfl, hbd⟩
        have hBd := then_ hB hbd
        clear hB hbd
        go_wp2
        go_ret
        exact ⟨rfl, hBd⟩
  · have ho := out_of h0
    go_wp2_with fail
    refine (putTime_out _ _ ho).mono ?_
    rintro e wb ⟨A, c, rfl, hh0, hb0⟩
    have hB0 := then_ hba hb0
    clear hba hb0 h0 hh0
    go_wp2_with fail
    refine (putTime_any _ _).mono ?_
    obtain ⟨T1, hT1⟩ : ∃ T, putT a1 = T := ⟨_, rfl⟩
    obtain ⟨ys, hys⟩ : ∃ ys, putB a1 = ys := ⟨_, rfl⟩
    obtain ⟨E1, hE1⟩ : ∃ E, putE a1 = E := ⟨_, rfl⟩
    rw [hT1, hys, hE1]
    clear hT1 hys hE1
    rintro e wc ⟨A1, c1, rfl, hh1, hb1⟩
    have hB := then_ hB0 hb1
    clear hB0 hb1 hh1
    by_cases hlo : a0 < -631152000
    · clear ho
      go_wp2_with fail
      refine (Time_any _ _ _ _ _ _ (w3.below hB) l3 (by omega)).mono ?_
      by_cases hk : OkT a2 x3
      · have kN : timeN a2 x3 = timeS a2 x3 := if_pos hk
        have kE : timeE a2 x3 = 0 := if_pos hk
        obtain ⟨kr, kt, kb⟩ := hk
        obtain ⟨N, hN⟩ : ∃ N, timeS a2 x3 = N := ⟨_, rfl⟩
        rw [kN, kE, hN]
        rw [hN] at kr kt kb
        have KT := Lib.hid kt
        have KB := Lib.hid kb
        clear kN kE hN kt kb
        rintro e wd ⟨rfl, hbd⟩
        have hBd := then_ hB hbd
        clear hB hbd
        go_wp2_with fail
        refine (putTime_in _ _ kr).mono ?_
        rw [KT.out, KB.out]
        rintro e we ⟨A9, c9, rfl, hh9, hbe⟩
        have hBe := then_ hBd hbe
        have s1 := str_now hh9.1 c9
        have s2 := str_now (w3.below hBe) cap3
        clear hBd hbe hh9
        go_wp2
        go_ret
        exact ⟨rfl, hBe⟩
      · have kN : timeN a2 x3 = 0 := if_neg hk
        have kE : timeE a2 x3 = 32 := if_neg hk
        rw [kN, kE]
        clear kN kE hk
        rintro e wd ⟨rfl, hbd⟩
        have hBd := then_ hB hbd
        clear hB hbd
        go_wp2
        go_ret
        exact ⟨rfl, hBd⟩
    · have hhi : 253402300799 < a0 := by omega
      clear ho
      go_wp2_with fail
      refine (Time_any _ _ _ _ _ _ (w3.below hB) l3 (by omega)).mono ?_
      by_cases hk : OkT a2 x3
      · have kN : timeN a2 x3 = timeS a2 x3 := if_pos hk
        have kE : timeE a2 x3 = 0 := if_pos hk
        obtain ⟨kr, kt, kb⟩ := hk
        obtain ⟨N, hN⟩ : ∃ N, timeS a2 x3 = N := ⟨_, rfl⟩
        rw [kN, kE, hN]
        rw [hN] at kr kt kb
        have KT := Lib.hid kt
        have KB := Lib.hid kb
        clear kN kE hN kt kb
        rintro e wd ⟨rfl, hbd⟩
        have hBd := then_ hB hbd
        clear hB hbd
        go_wp2_with fail
        refine (putTime_in _ _ kr).mono ?_
        rw [KT.out, KB.out]
        rintro e we ⟨A9, c9, rfl, hh9, hbe⟩
        have hBe := then_ hBd hbe
        have s1 := str_now hh9.1 c9
        have s2 := str_now (w3.below hBe) cap3
        clear hBd hbe hh9
        go_wp2
        go_ret
        exact ⟨rfl, hBe⟩
      · have kN : timeN a2 x3 = 0 := if_neg hk
        have kE : timeE a2 x3 = 32 := if_neg hk
        rw [kN, kE]
        clear kN kE hk
        rintro e wd ⟨rfl, hbd⟩
        have hBd := then_ hB hbd
        clear hB hbd
        go_wp2
        go_ret
        exact ⟨rfl, hBd⟩

theorem reads (os : Os) {H : Type} (enc : TypeId × Value → H) : ∃ places, DataW.whole enc Tryd.prog ((txc.laidWorld os).forCall (fun _ _ => 0) ⟨#[], #[.int .i64 0, .int .i64 0, .int .u8 0, .slice none 0 0], []⟩).memory Tryd.f7.params.toList Rows.textsBackSpec.vars false (#[.int .i64 0, .int .i64 0, .int .u8 0, .slice none 0 0] : Array Value).toList 8 = some ([.lit (.int .i64 0), .lit (.int .i64 0), .lit (.int .u8 0), .nil], [], places) :=
  ⟨[], by kernel_rfl⟩
set_option maxRecDepth 100000 in
theorem lifted (os : Os) (started : os.Started) (H : Type) (enc : TypeId × Value → H) (F : Stop.Interp) :
    ReturnsInHanded {} Tryd.checked os 7 .any ((OpenSpec.ofChange Rows.textsBackSpec).preRow enc Tryd.prog Tryd.f7 Rows.textsBackRow.domain false Rows.textsBackRow.laid) (((OpenSpec.ofChange Rows.textsBackSpec).at F).post enc Tryd.prog Tryd.f7 false true false false) := by
  obtain ⟨places, hx⟩ := reads os enc
  refine returnsInHanded_of_row (C := Tryd.checked) (s := (OpenSpec.ofChange Rows.textsBackSpec)) own started (by kernel_rfl) Tryd.func7
    (witness_row_at (enc := enc) (C := Tryd.checked) false (txc.laidWorld os) #[.int .i64 0, .int .i64 0, .int .u8 0, .slice none 0 0] rfl (by kernel_rfl) (by kernel_rfl) (by kernel_rfl)
      (OpenSpec.preRow_of_cond 8 hx (by kernel_rfl) (fun k hk => by cases hk) (by kernel_rfl) (txc.laid_met os _))) ?_
  intro W base args ds gs before hval0 hW hcnd hcond hsz0 hL _ _
  have hval : ∀ (j : Nat) t v, Tryd.f7.params[j]? = some t → args[j]? = some v → Value.okWide Tryd.prog W .any base t v := hval0
  have hW' := hW
  obtain ⟨p, q, hA0, hV, rfl, hfz, hnd⟩ := hW
  have hA : DataW.TrodAll enc Tryd.prog W 0 (fun _ => true) true Tryd.f7.params.toList args.toList ds p := hA0
  have hsz : (DataW.weightsEach Tryd.prog (Tryd.f7.params.toList ++ (OpenSpec.ofChange Rows.textsBackSpec).bare.plain.varTypes Tryd.prog) (ds ++ gs)).all (· ≤ reachBytes) = true := hsz0
  rw [Tryd.params7] at hA hval hsz
  obtain ⟨v0, vs0, d0, ds0, p0, q0, hargs, rfl, rfl, h0, r_0⟩ := trodAll_cons hA
  obtain ⟨v1, vs1, d1, ds1, p1, q1, rfl, rfl, rfl, h1, r_1⟩ := trodAll_cons r_0
  obtain ⟨v2, vs2, d2, ds2, p2, q2, rfl, rfl, rfl, h2, r_2⟩ := trodAll_cons r_1
  obtain ⟨v3, vs3, d3, ds3, p3, q3, rfl, rfl, rfl, h3, r_3⟩ := trodAll_cons r_2
  obtain ⟨rfl, rfl, rfl⟩ := trodAll_nil r_3
  obtain rfl : args = #[v0, v1, v2, v3] := by cases args; simp_all
  obtain ⟨rfl, rfl⟩ := trodVars_none hV
  obtain ⟨a0, rfl, rfl, rfl, w0⟩ := open_int Tryd.underlying2 (hval 0 2 v0 rfl rfl) h0
  obtain ⟨a1, rfl, rfl, rfl, w1⟩ := open_int Tryd.underlying2 (hval 1 2 v1 rfl rfl) h1
  obtain ⟨a2, rfl, rfl, rfl, w2⟩ := open_int Tryd.underlying5 (hval 2 5 v2 rfl rfl) h2
  obtain ⟨a3, len3, cap3, rfl⟩ := okWide_slice Tryd.underlying22 (hval 3 22 v3 rfl rfl)
  have k3 := h3
  have lt3 : ∀ x ∈ p3, x.block < W.heap.size := by obtain ⟨m, hm⟩ := k3; exact DataW.trod_lt m _ _ _ hm
  obtain ⟨x3, w3, l3, m3, s3⟩ := tlvc.open_bys Tryd.underlying22 Tryd.underlying5 (by kernel_rfl) h3
  have r3 := tlvc.spots_reach hsz s3 (j := 3) rfl rfl Tryd.underlying22 (of_decide_eq_true (by kernel_rfl))
  clear hA0 hval0
  have hT : txc.Tabs W := txc.tabs_of hL
  refine (walk a0 a1 a2 a3 len3 cap3 x3 W w0 w1 w2 w3 l3 r3 hT).mono fun e W' ⟨he, bel⟩ => ?_
  subst he
  exact ⟨_, rfl, _, _, _, [], _, [], hW', trodAll_mk1 (shut_bool Tryd.underlying4 _), (trodAll_cons_mk (shut_int Tryd.underlying2 w0) (trodAll_cons_mk (shut_int Tryd.underlying2 w1) (trodAll_cons_mk (shut_int Tryd.underlying5 w2) (trodAll_cons_mk (Below.trod laidOut (by kernel_rfl) (of_decide_eq_true (by kernel_rfl)) k3 bel lt3) trodAll_mk0)))), rfl, bel.frame _, fun h => by cases h⟩

theorem over : Rows.textsBackRow.holds Tryd.pinned (OpenSpec.ofChange Rows.textsBackSpec) :=
  OpenClaim.holds_of_cond 7 Tryd.f7 rfl rfl rfl rfl rfl rfl rfl ⟨rfl, rfl, rfl, rfl, rfl⟩ rfl rfl rfl rfl rfl (by kernel_rfl) Tryd.func7 (by kernel_rfl)
    (of_decide_eq_true (by kernel_rfl)) (by unfold Func.isWrapper; first | (rw [if_pos (by decide +kernel)]; kernel_rfl) | (rw [if_neg (by decide +kernel)]; exact ⟨rfl, rfl⟩))
    (fun os started H enc _ F => by rw [OpenClaim.pre_eq_preRow]; exact lifted os started H enc F)

theorem plain (f : FuncId) (fn : Func) (hf : Tryd.pinned.checked.prog.funcNamed "warder/warderlaw03.TextsBack" = some f) (hfn : Tryd.pinned.checked.prog.funcs[f]? = some fn) :
    false = Tryd.pinned.checked.prog.looks [] ∧ ∀ (j : Nat) t, fn.params[j]? = some t → Tryd.pinned.checked.prog.wantsStandIn t = false := by
  obtain rfl : f = 7 := Option.some.inj ((show Tryd.prog.funcNamed "warder/warderlaw03.TextsBack" = some 7 by kernel_rfl).symm.trans hf) |>.symm
  obtain rfl : fn = Tryd.f7 := (Option.some.inj (Tryd.func7.symm.trans hfn)).symm
  refine ⟨by kernel_rfl, fun j t ht => ?_⟩
  rw [Tryd.params7] at ht
  match j, ht with
    | 0, ht => obtain rfl : t = 2 := (Option.some.inj ht).symm; exact (show Tryd.prog.wantsStandIn 2 = false by kernel_rfl)
    | 1, ht => obtain rfl : t = 2 := (Option.some.inj ht).symm; exact (show Tryd.prog.wantsStandIn 2 = false by kernel_rfl)
    | 2, ht => obtain rfl : t = 5 := (Option.some.inj ht).symm; exact (show Tryd.prog.wantsStandIn 5 = false by kernel_rfl)
    | 3, ht => obtain rfl : t = 22 := (Option.some.inj ht).symm; exact (show Tryd.prog.wantsStandIn 22 = false by kernel_rfl)
    | j + 4, ht => simp at ht

theorem proved : Rows.TextsBackCardSaid :=
  Claim7.holds_tied_plain_at .later [] _ _ _ _ over (fun _ h => by cases h) (by kernel_rfl) (fun _ h => by cases h) textsBack_row_tie rfl ⟨rfl, rfl⟩ (by kernel_rfl) rfl plain (by kernel_rfl)
#print axioms proved
end Go.Proofs.YtajiolcdjjkedaaDoor.textsBack
