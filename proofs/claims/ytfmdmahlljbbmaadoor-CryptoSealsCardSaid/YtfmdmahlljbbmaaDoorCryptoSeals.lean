/- The law CryptoSeals of warderlaw07 answers true for every list of terms, two handles and two slices of bytes, and leaves its arguments as they were; no condition. -/
import Derived.Test.YtfmdmahlljbbmaaDoorCards
import Derived.Test.YtfmdmahlljbbmaaDoorTie
import Derived.WalkKit
import Derived.ProofKit
import Derived.OpenShut
import Derived.ChangeOld
import Derived.Below
import Derived.SizedLaws
import Derived.Test.YtfmdmahlljbbmaaDoorTh
import Derived.Test.YtfmdmahlljbbmaaDoorVtTab
import Derived.Test.YtfmdmahlljbbmaaDoorCg
import Derived.Deep.DeepCutAuto
import Derived.Lib.QuietBelow
import Derived.BigQuiet
namespace Go.Proofs.YtfmdmahlljbbmaaDoor.cryptoSeals
open Go.ChangeShapes Go.WideShapes Go.ChangeAt Go.RowKit
set_option linter.unusedVariables false

theorem own : ownKnob Tryd.prog.godebug = none := by kernel_rfl
theorem laidOut : laidOutB Tryd.prog = true := by kernel_rfl

open Go.Proofs.YtfmdmahlljbbmaaDoor.tlvc Go.Proofs.YtfmdmahlljbbmaaDoor.tmc Go.Proofs.YtfmdmahlljbbmaaDoor.vtc

set_option maxRecDepth 100000 in
set_option maxHeartbeats 16000000 in
theorem walk (a0 : Option Addr) (len0 cap0 : Nat) (x0 : List tmc.Tm) (a1 : Int) (a2 : Int) (a3 : Option Addr) (len3 cap3 : Nat) (x3 : List Int) (a4 : Option Addr) (len4 cap4 : Nat) (x4 : List Int) (w : World) (e0 : x0.length = len0) (w0 : tmc.Tms w a0 x0) (l0 : len0 ≤ cap0) (m0 : cap0 ≤ maxLen) (y0 : tmc.fitDs x0) (w1 : (Lit.int .i64 a1).wf = true) (w2 : (Lit.int .i64 a2).wf = true) (w3 : tlvc.Bys w a3 len3 x3) (l3 : len3 ≤ cap3) (r3 : cap3 ≤ 140737488351232) (w4 : tlvc.Bys w a4 len4 x4) (l4 : len4 ≤ cap4) (r4 : cap4 ≤ 140737488351232) (hT : txc.Tabs w) :
    Calls Tryd.prog 8 #[.slice a0 len0 cap0, .int .i64 a1, .int .i64 a2, .slice a3 len3 cap3, .slice a4 len4 cap4] w fun e w' => e = .returned (.bool true) ∧ Below w.heap.size w w' := by
  have h1 : I64 a1 := bounds_i64 w1
  have h2 : I64 a2 := bounds_i64 w2
  have hm3 : cap3 ≤ maxLen := by unfold maxLen; omega
  have hm4 : cap4 ≤ maxLen := by unfold maxLen; omega
  have HSAME := Lib.hid (str_same w4.fit w3.fit)
  have HT := Lib.hid (show txc.Tab w.heap.size w from hT)
  have HH := Lib.hid (head7_any w hT)
  have HBO := Lib.hid fun (W : World) (hb : Below w.heap.size w W) => both_any a0 len0 cap0 x0 W e0 (tms_below w0 hb) l0 m0 ((hT.on hb).mono hb.size)
  have HD3 : Hid (∀ (L : List Tm) (wx : World) (W0 : World) (vb mb : Nat) (ob : Option Nat), Below w.heap.size w W0 → Vat W0 vb mb ob L wx → Bys wx a3 len3 x3 ∧ (0 < len3 → ∀ g off sp, a3 = some ⟨g, off, sp⟩ → ¬ Mut vb mb ob g)) := Lib.hid fun L wx W0 vb mb ob hb hv => ⟨w3.below (blw hb hv.bel), fun hl g off sp e => by
    obtain ⟨b, off', e', hb', _⟩ := w3.2.2 hl
    rw [e'] at e
    cases e
    exact hv.far (Nat.lt_of_lt_of_le hb' hb.size)⟩
  have HD4 : Hid (∀ (L : List Tm) (wx : World) (W0 : World) (vb mb : Nat) (ob : Option Nat), Below w.heap.size w W0 → Vat W0 vb mb ob L wx → Bys wx a4 len4 x4 ∧ (0 < len4 → ∀ g off sp, a4 = some ⟨g, off, sp⟩ → ¬ Mut vb mb ob g)) := Lib.hid fun L wx W0 vb mb ob hb hv => ⟨w4.below (blw hb hv.bel), fun hl g off sp e => by
    obtain ⟨b, off', e', hb', _⟩ := w4.2.2 hl
    rw [e'] at e
    cases e
    exact hv.far (Nat.lt_of_lt_of_le hb' hb.size)⟩
  clear w0 w1 w2 w3 w4 y0 e0 m0 hT
  go_enter Tryd.func8, Tryd.ntmps8
  go_wp2_with fail
  refine HH.out.mono ?_
  rintro e wa ⟨rfl, hba⟩
  have HBA := Lib.hid hba
  have HB2 := Lib.hid (HBO.out wa hba)
  clear hba HBO HH
  go_wp2_with fail
  refine HB2.out.mono ?_
  rintro e wb (⟨rfl, hbb⟩ | ⟨vb, mb, ob, rb, od, L, rfl, htw, hsz⟩)
  · have HE := Lib.hid (blw HBA.out hbb)
    clear hbb
    go_wp2
    go_ret
    exact ⟨rfl, HE.out⟩
  · have hta : txc.Tab wa.heap.size wa := (HT.out.on HBA.out).mono HBA.out.size
    have hv := htw.vat hsz
    have HTA := Lib.hid hta
    obtain ⟨s, e, L1, k1⟩ : ∃ a e L1, ofF L 4 a1 x3 = (a, e, L1) := ⟨_, _, _, rfl⟩
    obtain ⟨g, f, L2, k2⟩ : ∃ a e L2, ofF L1 3 a1 x3 = (a, e, L2) := ⟨_, _, _, rfl⟩
    obtain ⟨p, h, L3, k3⟩ : ∃ a e L3, ofF L2 2 a1 [] = (a, e, L3) := ⟨_, _, _, rfl⟩
    obtain ⟨q, i, L4, k4⟩ : ∃ a e L4, ofF L3 2 a2 [] = (a, e, L4) := ⟨_, _, _, rfl⟩
    have hg0 := hv.good
    obtain ⟨hg1, _⟩ := of_good hg0 k1
    obtain ⟨hg2, _⟩ := of_good hg1 k2
    obtain ⟨hg3, _⟩ := of_good hg2 k3
    have HPI := Lib.hid (show I64 s ∧ I64 g ∧ I64 p ∧ I64 q from ⟨of_i64 hg0 k1, of_i64 hg1 k2, of_i64 hg2 k3, of_i64 hg3 k4⟩)
    have HERR := Lib.hid (seals_err hg0 k1 k2 k3 k4)
    have HOK := Lib.hid (show e = 0 → f = 0 → h = 0 → i = 0 → _ from fun e1 e2 e3 e4 => by
      subst e1 e2 e3 e4
      exact seals_ok hg0 k1 k2 k3 k4)
    have HC1 := Lib.hid (show _ ∧ _ from And.intro (HD3.out L wb wa vb mb ob HBA.out hv) trivial)
    have HCA := Lib.hid (hv.seal hta a1 h1 a3 len3 cap3 x3 HC1.out.1.1 l3 hm3 HC1.out.1.2 k1)
    have HK := Lib.hid (And.intro k2 (And.intro k3 k4))
    clear htw hsz hv hta HB2 hg0 hg1 hg2 hg3 k1 k2 k3 k4 HC1
    go_wp2_with fail
    refine HCA.out.mono ?_
    rintro en w3 ⟨ob1, rfl, hv1⟩
    obtain ⟨d1, d2⟩ := HD3.out L1 w3 wa vb mb ob1 HBA.out hv1
    have HC2 := Lib.hid (hv1.sign HTA.out a1 h1 a3 len3 cap3 x3 d1 l3 hm3 d2 HK.out.1)
    clear hv1 HCA d1 d2
    go_wp2_with fail
    refine HC2.out.mono ?_
    rintro en w4 ⟨ob2, rfl, hv1⟩
    have HC3 := Lib.hid (hv1.pub HTA.out a1 h1 HK.out.2.1)
    clear hv1 HC2
    go_wp2_with fail
    refine HC3.out.mono ?_
    rintro en w5 ⟨ob3, rfl, hv1⟩
    have HC4 := Lib.hid (hv1.pub HTA.out a2 h2 HK.out.2.2)
    clear hv1 HC3
    go_wp2_with fail
    refine HC4.out.mono ?_
    rintro en w6 ⟨ob4, rfl, hv1⟩
    have HV6 := Lib.hid hv1
    obtain ⟨E, hE⟩ : ∃ b, decide (e ≠ 0 ∨ f ≠ 0 ∨ h ≠ 0 ∨ i ≠ 0) = b := ⟨_, rfl⟩
    have HEE := Lib.hid hE
    clear hv1 HC4 hE HK
    go_upto_region 9 with fail
    go_cut [76] (fun s76 wx => s76 = .bool E ∧ Hid (Vat wa vb mb ob4 L4 wx))
    case first =>
      by_cases e0 : e = 0
      · by_cases f0 : f = 0
        · by_cases g0 : h = 0
          · by_cases i0 : i = 0
            · have hE : E = false := by rw [← HEE.out]; exact decide_eq_false (by simp [e0, f0, g0, i0])
              subst e0 f0 g0 i0 hE
              clear HERR HOK HEE
              go_wp2_with fail
              go_meet
              exact ⟨rfl, HV6⟩
            · have hE : E = true := by rw [← HEE.out]; exact decide_eq_true (.inr (.inr (.inr i0)))
              have n : (i != 0) = true := by simp [i0]
              subst e0 f0 g0 hE
              clear HERR HOK HEE
              go_wp2_with fail
              go_meet
              exact ⟨rfl, HV6⟩
          · have hE : E = true := by rw [← HEE.out]; exact decide_eq_true (.inr (.inr (.inl g0)))
            have n : (h != 0) = true := by simp [g0]
            subst e0 f0 hE
            clear HERR HOK HEE
            go_wp2_with fail
            go_meet
            exact ⟨rfl, HV6⟩
        · have hE : E = true := by rw [← HEE.out]; exact decide_eq_true (.inr (.inl f0))
          have n : (f != 0) = true := by simp [f0]
          subst e0 hE
          clear HERR HOK HEE
          go_wp2_with fail
          go_meet
          exact ⟨rfl, HV6⟩
      · have hE : E = true := by rw [← HEE.out]; exact decide_eq_true (.inl e0)
        have n : (e != 0) = true := by simp [e0]
        subst hE
        clear HERR HOK HEE
        go_wp2_with fail
        go_meet
        exact ⟨rfl, HV6⟩
    case rest =>
      clear HV6
      obtain ⟨rfl, HV6⟩ := hcut
      cases E with
      | true =>
        have hne := HERR.out (of_decide_eq_true HEE.out)
        have HE := Lib.hid (blw HBA.out HV6.out.bel)
        obtain ⟨b1, hb1⟩ : ∃ b, (e == f) = b := ⟨_, rfl⟩
        obtain ⟨b2, hb2⟩ : ∃ b, (f == h) = b := ⟨_, rfl⟩
        obtain ⟨b3, hb3⟩ : ∃ b, (i != 0) = b := ⟨_, rfl⟩
        obtain ⟨b4, hb4⟩ : ∃ b, (e == 51) = b := ⟨_, rfl⟩
        obtain ⟨b5, hb5⟩ : ∃ b, (e == 2) = b := ⟨_, rfl⟩
        obtain ⟨b6, hb6⟩ : ∃ b, (f == 2) = b := ⟨_, rfl⟩
        obtain ⟨b7, hb7⟩ : ∃ b, (h == 2) = b := ⟨_, rfl⟩
        have hor : (b1 && b2) = true ∨ b3 = true ∨ b4 = true ∨ b5 = true ∨ b6 = true ∨ b7 = true := by
          subst hb1 hb2 hb3 hb4 hb5 hb6 hb7
          rcases hne with h | h | h | h | h | h
          · exact .inl (by simp [h.1, h.2])
          · exact .inr (.inl (by simp [h]))
          · exact .inr (.inr (.inl (by simp [h])))
          · exact .inr (.inr (.inr (.inl (by simp [h]))))
          · exact .inr (.inr (.inr (.inr (.inl (by simp [h])))))
          · exact .inr (.inr (.inr (.inr (.inr (by simp [h])))))
        have HOR := Lib.hid hor
        clear hne hor HERR HOK HEE HV6
        go_wp2
        all_goals
          go_ret
          refine ⟨?_, HE.out⟩
          first
            | rfl
            | (have h7 := HOR.out; simp_all)
      | false =>
        have hz := of_decide_eq_false HEE.out
        have e0 : e = 0 := Decidable.byContradiction fun h => hz (.inl h)
        have f0 : f = 0 := Decidable.byContradiction fun h => hz (.inr (.inl h))
        have g0 : h = 0 := Decidable.byContradiction fun h => hz (.inr (.inr (.inl h)))
        have i0 : i = 0 := Decidable.byContradiction fun h => hz (.inr (.inr (.inr h)))
        obtain ⟨_, o1, o2, o3, o4, o5, o6⟩ := HOK.out e0 f0 g0 i0
        have o7 := o4 x3
        have o8 := o4 x4
        rw [decide_eq_true rfl] at o7
        obtain ⟨bb, hbb⟩ : ∃ b, decide (a1 = a2) = b := ⟨_, rfl⟩
        obtain ⟨cc, hcc⟩ : ∃ b, decide (x4 = x3) = b := ⟨_, rfl⟩
        rw [o3] at o5
        rw [hbb] at o2 o5
        rw [hcc] at o8
        have hpq : (p == q) = bb := by rw [beq_dec, o3, hbb]
        have hko : (a1 == a2) = bb := by rw [beq_dec, hbb]
        have hmm : ((strOfNums x4).toList == (strOfNums x3).toList) = cc := by rw [HSAME.out, hcc]
        have hop1 := open_any (HV6.out.ok HTA.out) a1 s h1 HPI.out.1
        rw [o1] at hop1
        have HOP := Lib.hid hop1
        have HO2 := Lib.hid o2
        have HVF := Lib.hid (And.intro o7 (And.intro o5 (And.intro o8 o6)))
        have HEQ := Lib.hid (And.intro hpq (And.intro hko hmm))
        clear hz e0 f0 g0 i0 o1 o2 o3 o4 o5 o6 o7 o8 hbb hcc hpq hko hmm hop1 HOK HERR HEE HSAME
        go_wp2_with fail
        refine HOP.out.mono ?_
        rintro en w7 ⟨A7, n7, c7, rfl, _, _, hby, _, hb7⟩
        have hv7 := HV6.out.below hb7
        have hop2 := open_any (hv7.ok HTA.out) a2 s h2 HPI.out.1
        obtain ⟨r2, hr2⟩ : ∃ r, openF L4 a2 s = r := ⟨_, rfl⟩
        have ho2 := HO2.out
        rw [hr2] at hop2 ho2
        have HOP2 := Lib.hid (show Calls Tryd.prog 39 #[.pointer (some ⟨vb, 0, none⟩), .int .i64 a2, .int .i64 s] w7 fun e w' => ∃ A n c, e = .returned (.tuple #[.slice A n c, .bool bb]) ∧ Below w7.heap.size w7 w' from hop2.mono fun e w' ⟨A, n, c, k1, k2, k3, k4, k5, k6⟩ => ⟨A, n, c, by rw [k1, ho2], k6⟩)
        have hby : Bys w7 A7 n7 x3 := hby
        have HV7 := Lib.hid (And.intro hv7 hby)
        clear hv7 hop2 hr2 ho2 hby hb7 HOP HV6 HO2
        go_wp2_with fail
        refine HOP2.out.mono ?_
        rintro en w8 ⟨A8, n8, c8, rfl, hb8⟩
        have hv8 := HV7.out.1.below hb8
        have hby8 := HV7.out.2.below hb8
        obtain ⟨d3, _⟩ := HD3.out L4 w8 wa vb mb ob4 HBA.out hv8
        obtain ⟨d4, _⟩ := HD4.out L4 w8 wa vb mb ob4 HBA.out hv8
        have s7 := str_now hby8 c7
        have s3 := str_now d3 cap3
        obtain ⟨hpq, hko, hmm⟩ := HEQ.out
        have hbb2 : (bb != bb) = false := by cases bb <;> rfl
        have hss : ((strOfNums x3).toList != (strOfNums x3).toList) = false := by simp
        have hss2 : ((strOfNums x3).toList == (strOfNums x3).toList) = true := by simp
        have hvf := fun (d : Nat) (os : Array Obj) (pub sig : Int) (hp : I64 pub) (hs : I64 sig) => verify_any ((hv8.below (below_regrown w8 d os)).ok HTA.out) pub sig hp hs
        have HVA := Lib.hid (fun (d : Nat) (os : Array Obj) => (by have := hvf d os p g HPI.out.2.2.1 HPI.out.2.1 a3 len3 cap3 x3 (d3.below (below_regrown w8 d os)); rw [HVF.out.1] at this; exact this : Calls Tryd.prog 40 #[.pointer (some ⟨vb, 0, none⟩), .int .i64 p, .slice a3 len3 cap3, .int .i64 g] (Sort.grow (redrawn w8 d) os) fun e w' => e = .returned (.bool true) ∧ Below (Sort.grow (redrawn w8 d) os).heap.size (Sort.grow (redrawn w8 d) os) w'))
        have HVB := Lib.hid (fun (d : Nat) (os : Array Obj) => (by have := hvf d os q g HPI.out.2.2.2 HPI.out.2.1 a3 len3 cap3 x3 (d3.below (below_regrown w8 d os)); rw [HVF.out.2.1] at this; exact this : Calls Tryd.prog 40 #[.pointer (some ⟨vb, 0, none⟩), .int .i64 q, .slice a3 len3 cap3, .int .i64 g] (Sort.grow (redrawn w8 d) os) fun e w' => e = .returned (.bool bb) ∧ Below (Sort.grow (redrawn w8 d) os).heap.size (Sort.grow (redrawn w8 d) os) w'))
        have HVC := Lib.hid (fun (d : Nat) (os : Array Obj) => (by have := hvf d os p g HPI.out.2.2.1 HPI.out.2.1 a4 len4 cap4 x4 (d4.below (below_regrown w8 d os)); rw [HVF.out.2.2.1] at this; exact this : Calls Tryd.prog 40 #[.pointer (some ⟨vb, 0, none⟩), .int .i64 p, .slice a4 len4 cap4, .int .i64 g] (Sort.grow (redrawn w8 d) os) fun e w' => e = .returned (.bool cc) ∧ Below (Sort.grow (redrawn w8 d) os).heap.size (Sort.grow (redrawn w8 d) os) w'))
        have HVD := Lib.hid (fun (d : Nat) (os : Array Obj) => (by have := hvf d os p s HPI.out.2.2.1 HPI.out.1 a3 len3 cap3 x3 (d3.below (below_regrown w8 d os)); rw [HVF.out.2.2.2] at this; exact this : Calls Tryd.prog 40 #[.pointer (some ⟨vb, 0, none⟩), .int .i64 p, .slice a3 len3 cap3, .int .i64 s] (Sort.grow (redrawn w8 d) os) fun e w' => e = .returned (.bool false) ∧ Below (Sort.grow (redrawn w8 d) os).heap.size (Sort.grow (redrawn w8 d) os) w'))
        have HS3 := Lib.hid fun (d : Nat) (os : Array Obj) => str_now (d3.below (below_regrown w8 d os)) cap3
        have HS4 := Lib.hid fun (d : Nat) (os : Array Obj) => str_now (d4.below (below_regrown w8 d os)) cap4
        have HBL := Lib.hid (blw HBA.out hv8.bel)
        clear hv8 hby8 d3 d4 hvf hb8 HV7 HVF HEQ HOP2
        go_wp2_with fail
        clear s7 s3 hss hss2
        have s3 := HS3.out
        have s4 := HS4.out
        have hb2 : (bb == bb) = true := by cases bb <;> rfl
        have hc2 : (cc == cc) = true := by cases cc <;> rfl
        refine wp_region_quiet_below (by kernel_rfl) (by kernel_rfl) ?_
        repeat (go_big_quiet_step ((first | (go_at_call_of 40 q; refine Calls.regrown_of (HVB.out _ _)) | (go_at_call_of 40 a4; refine Calls.regrown_of (HVC.out _ _)) | (go_at_call_of 40 s; refine Calls.regrown_of (HVD.out _ _)) | (go_at_call 40; refine Calls.regrown_of (HVA.out _ _)))))
        refine wpQuiet_nil ?_
        intro _ hw'
        obtain ⟨⟨nq, osq⟩, hw''⟩ := hw'
        subst hw''
        have HE := Lib.hid (blw HBL.out (below_regrown w8 nq osq))
        clear s3 s4
        go_wp2
        go_ret
        exact ⟨by simp, HE.out⟩

theorem reads (os : Os) {H : Type} (enc : TypeId × Value → H) : ∃ places, DataW.whole enc Tryd.prog ((txc.laidWorld os).forCall (fun _ _ => 0) ⟨#[], #[.slice none 0 0, .int .i64 0, .int .i64 0, .slice none 0 0, .slice none 0 0], []⟩).memory Tryd.f8.params.toList Rows.cryptoSealsSpec.vars false (#[.slice none 0 0, .int .i64 0, .int .i64 0, .slice none 0 0, .slice none 0 0] : Array Value).toList 8 = some ([.nil, .lit (.int .i64 0), .lit (.int .i64 0), .nil, .nil], [], places) :=
  ⟨[], by kernel_rfl⟩
set_option maxRecDepth 100000 in
theorem lifted (os : Os) (started : os.Started) (H : Type) (enc : TypeId × Value → H) (F : Stop.Interp) :
    ReturnsInHanded {} Tryd.checked os 8 .any ((OpenSpec.ofChange Rows.cryptoSealsSpec).preRow enc Tryd.prog Tryd.f8 Rows.cryptoSealsRow.domain false Rows.cryptoSealsRow.laid) (((OpenSpec.ofChange Rows.cryptoSealsSpec).at F).post enc Tryd.prog Tryd.f8 false true false false) := by
  obtain ⟨places, hx⟩ := reads os enc
  refine returnsInHanded_of_row (C := Tryd.checked) (s := (OpenSpec.ofChange Rows.cryptoSealsSpec)) own started (by kernel_rfl) Tryd.func8
    (witness_row_at (enc := enc) (C := Tryd.checked) false (txc.laidWorld os) #[.slice none 0 0, .int .i64 0, .int .i64 0, .slice none 0 0, .slice none 0 0] rfl (by kernel_rfl) (by kernel_rfl) (by kernel_rfl)
      (OpenSpec.preRow_of_cond 8 hx (by kernel_rfl) (fun k hk => by cases hk) (by kernel_rfl) (txc.laid_met os _))) ?_
  intro W base args ds gs before hval0 hW hcnd hcond hsz0 hL _ _
  have hval : ∀ (j : Nat) t v, Tryd.f8.params[j]? = some t → args[j]? = some v → Value.okWide Tryd.prog W .any base t v := hval0
  have hW' := hW
  obtain ⟨p, q, hA0, hV, rfl, hfz, hnd⟩ := hW
  have hA : DataW.TrodAll enc Tryd.prog W 0 (fun _ => true) true Tryd.f8.params.toList args.toList ds p := hA0
  have hsz : (DataW.weightsEach Tryd.prog (Tryd.f8.params.toList ++ (OpenSpec.ofChange Rows.cryptoSealsSpec).bare.plain.varTypes Tryd.prog) (ds ++ gs)).all (· ≤ reachBytes) = true := hsz0
  rw [Tryd.params8] at hA hval hsz
  obtain ⟨v0, vs0, d0, ds0, p0, q0, hargs, rfl, rfl, h0, r_0⟩ := trodAll_cons hA
  obtain ⟨v1, vs1, d1, ds1, p1, q1, rfl, rfl, rfl, h1, r_1⟩ := trodAll_cons r_0
  obtain ⟨v2, vs2, d2, ds2, p2, q2, rfl, rfl, rfl, h2, r_2⟩ := trodAll_cons r_1
  obtain ⟨v3, vs3, d3, ds3, p3, q3, rfl, rfl, rfl, h3, r_3⟩ := trodAll_cons r_2
  obtain ⟨v4, vs4, d4, ds4, p4, q4, rfl, rfl, rfl, h4, r_4⟩ := trodAll_cons r_3
  obtain ⟨rfl, rfl, rfl⟩ := trodAll_nil r_4
  obtain rfl : args = #[v0, v1, v2, v3, v4] := by cases args; simp_all
  obtain ⟨rfl, rfl⟩ := trodVars_none hV
  obtain ⟨a0, len0, cap0, rfl⟩ := okWide_slice Tryd.underlying22 (hval 0 22 v0 rfl rfl)
  have k0 := h0
  have lt0 : ∀ x ∈ p0, x.block < W.heap.size := by obtain ⟨m, hm⟩ := k0; exact DataW.trod_lt m _ _ _ hm
  obtain ⟨x0, e0, w0, l0, m0, z0⟩ := tmc.open_tms ({ U := _, f0 := _, f1 := _, f2 := _, f3 := _, hT := Tryd.underlying26, hone := by kernel_rfl, hC := by kernel_rfl, e0 := Tryd.underlying23, e1 := Tryd.underlying2, e2 := Tryd.underlying24, eU := Tryd.underlying5, cU := by kernel_rfl, bU := by kernel_rfl, e3 := Tryd.underlying22 }) Tryd.underlying22 h0
  have y0 := z0 (tmc.each_fit hsz (j := 0) rfl rfl)
  obtain ⟨a1, rfl, rfl, rfl, w1⟩ := open_int Tryd.underlying3 (hval 1 3 v1 rfl rfl) h1
  obtain ⟨a2, rfl, rfl, rfl, w2⟩ := open_int Tryd.underlying3 (hval 2 3 v2 rfl rfl) h2
  obtain ⟨a3, len3, cap3, rfl⟩ := okWide_slice Tryd.underlying24 (hval 3 24 v3 rfl rfl)
  have k3 := h3
  have lt3 : ∀ x ∈ p3, x.block < W.heap.size := by obtain ⟨m, hm⟩ := k3; exact DataW.trod_lt m _ _ _ hm
  obtain ⟨x3, w3, l3, m3, s3⟩ := tlvc.open_bys Tryd.underlying24 Tryd.underlying5 (by kernel_rfl) h3
  have r3 := tlvc.spots_reach hsz s3 (j := 3) rfl rfl Tryd.underlying24 (of_decide_eq_true (by kernel_rfl))
  obtain ⟨a4, len4, cap4, rfl⟩ := okWide_slice Tryd.underlying24 (hval 4 24 v4 rfl rfl)
  have k4 := h4
  have lt4 : ∀ x ∈ p4, x.block < W.heap.size := by obtain ⟨m, hm⟩ := k4; exact DataW.trod_lt m _ _ _ hm
  obtain ⟨x4, w4, l4, m4, s4⟩ := tlvc.open_bys Tryd.underlying24 Tryd.underlying5 (by kernel_rfl) h4
  have r4 := tlvc.spots_reach hsz s4 (j := 4) rfl rfl Tryd.underlying24 (of_decide_eq_true (by kernel_rfl))
  clear hA0 hval0
  have hT : txc.Tabs W := txc.tabs_of hL
  refine (walk a0 len0 cap0 x0 a1 a2 a3 len3 cap3 x3 a4 len4 cap4 x4 W e0 w0 l0 m0 y0 w1 w2 w3 l3 r3 w4 l4 r4 hT).mono fun e W' ⟨he, bel⟩ => ?_
  subst he
  exact ⟨_, rfl, _, _, _, [], _, [], hW', trodAll_mk1 (shut_bool Tryd.underlying4 _), (trodAll_cons_mk (Below.trod laidOut (by kernel_rfl) (of_decide_eq_true (by kernel_rfl)) k0 bel lt0) (trodAll_cons_mk (shut_int Tryd.underlying3 w1) (trodAll_cons_mk (shut_int Tryd.underlying3 w2) (trodAll_cons_mk (Below.trod laidOut (by kernel_rfl) (of_decide_eq_true (by kernel_rfl)) k3 bel lt3) (trodAll_cons_mk (Below.trod laidOut (by kernel_rfl) (of_decide_eq_true (by kernel_rfl)) k4 bel lt4) trodAll_mk0))))), rfl, bel.frame _, fun h => by cases h⟩

theorem over : Rows.cryptoSealsRow.holds Tryd.pinned (OpenSpec.ofChange Rows.cryptoSealsSpec) :=
  OpenClaim.holds_of_cond 8 Tryd.f8 rfl rfl rfl rfl rfl rfl rfl ⟨rfl, rfl, rfl, rfl, rfl⟩ rfl rfl rfl rfl rfl (by kernel_rfl) Tryd.func8 (by kernel_rfl)
    (of_decide_eq_true (by kernel_rfl)) (by unfold Func.isWrapper; first | (rw [if_pos (by decide +kernel)]; kernel_rfl) | (rw [if_neg (by decide +kernel)]; exact ⟨rfl, rfl⟩))
    (fun os started H enc _ F => by rw [OpenClaim.pre_eq_preRow]; exact lifted os started H enc F)

theorem plain (f : FuncId) (fn : Func) (hf : Tryd.pinned.checked.prog.funcNamed "warder/warderlaw07.CryptoSeals" = some f) (hfn : Tryd.pinned.checked.prog.funcs[f]? = some fn) :
    false = Tryd.pinned.checked.prog.looks [] ∧ ∀ (j : Nat) t, fn.params[j]? = some t → Tryd.pinned.checked.prog.wantsStandIn t = false := by
  obtain rfl : f = 8 := Option.some.inj ((show Tryd.prog.funcNamed "warder/warderlaw07.CryptoSeals" = some 8 by kernel_rfl).symm.trans hf) |>.symm
  obtain rfl : fn = Tryd.f8 := (Option.some.inj (Tryd.func8.symm.trans hfn)).symm
  refine ⟨by kernel_rfl, fun j t ht => ?_⟩
  rw [Tryd.params8] at ht
  match j, ht with
    | 0, ht => obtain rfl : t = 22 := (Option.some.inj ht).symm; exact (show Tryd.prog.wantsStandIn 22 = false by kernel_rfl)
    | 1, ht => obtain rfl : t = 3 := (Option.some.inj ht).symm; exact (show Tryd.prog.wantsStandIn 3 = false by kernel_rfl)
    | 2, ht => obtain rfl : t = 3 := (Option.some.inj ht).symm; exact (show Tryd.prog.wantsStandIn 3 = false by kernel_rfl)
    | 3, ht => obtain rfl : t = 24 := (Option.some.inj ht).symm; exact (show Tryd.prog.wantsStandIn 24 = false by kernel_rfl)
    | 4, ht => obtain rfl : t = 24 := (Option.some.inj ht).symm; exact (show Tryd.prog.wantsStandIn 24 = false by kernel_rfl)
    | j + 5, ht => simp at ht

theorem proved : Rows.CryptoSealsCardSaid :=
  Claim7.holds_tied_plain_at .later [] _ _ _ _ over (fun _ h => by cases h) (by kernel_rfl) (fun _ h => by cases h) cryptoSeals_row_tie rfl ⟨rfl, rfl⟩ (by kernel_rfl) rfl plain (by kernel_rfl)
#print axioms proved
end Go.Proofs.YtfmdmahlljbbmaaDoor.cryptoSeals
