/- The document's words on parts: word, RightPrinc, Right; its makers of nodes: Oid, Text, Seq. -/
import Derived.Test.YthcancakkkjpaaaGreatDoorRi
import Derived.Test.YthcancakkkjpaaaGreatDoorXf
namespace Go.Proofs.YthcancakkkjpaaaGreatDoor.nmc
open Go.RowKit Go.Proofs.YthcancakkkjpaaaGreatDoor.tlvc Go.Proofs.YthcancakkkjpaaaGreatDoor.tlvd Go.Proofs.YthcancakkkjpaaaGreatDoor.ndc Go.Proofs.YthcancakkkjpaaaGreatDoor.txc Go.Proofs.YthcancakkkjpaaaGreatDoor.txm Go.Proofs.YthcancakkkjpaaaGreatDoor.intc Go.Proofs.YthcancakkkjpaaaGreatDoor.intm
set_option linter.unusedVariables false
set_option linter.unusedSimpArgs false
set_option maxRecDepth 100000 in
set_option maxHeartbeats 4000000 in
theorem rword_any (s : ByteArray) (w : World) (hs : s.size ≤ maxLen) (hT : Tabs w) :
    Calls Tryz.prog 49 #[.string s] w fun e w' => e = .returned (.bool (wordOK s)) ∧ Below w.heap.size w w' := by
  have h9 : s.size ≤ 9223372036854775807 := by unfold maxLen at hs; omega
  obtain ⟨cp, W2, hcv, hc1, hc2, hby, hbw, hz2⟩ := conv_at w s hs
  have hr := refRight_any 27 _ _ _ _ W2 hby hc1 hc2 (hT.below hbw)
  rw [show rightD 27 (bytesI s) = rightB 27 (bytesI s) from rfl] at hr
  obtain ⟨RES, hRES⟩ : ∃ x, wordOK s = x := ⟨_, rfl⟩
  rw [hRES]
  unfold wordOK at hRES
  obtain ⟨r, hrr⟩ : ∃ x, rightB 27 (bytesI s) = x := ⟨_, rfl⟩
  rw [hrr] at hr hRES
  have HR := Lib.hid hr
  have HB := Lib.hid hbw
  have HX := Lib.hid hRES
  clear hr hrr hby hbw hz2 hc1 hc2 hT hRES
  go_enter Tryz.func49, Tryz.ntmps49
  go_wp2_with fail
  refine HR.out.mono ?_
  rintro e w3 ⟨rfl, hb3⟩
  have hfin := Lib.hid (below_then HB.out hb3 (Nat.le_refl _))
  clear hb3 HR HB
  by_cases h1 : 1 ≤ s.size
  · have hz1 : (0 : Int) < (s.size : Int) := by omega
    by_cases h2 : s.size ≤ 64
    · have hz2 : (s.size : Int) ≤ 64 := by omega
      cases r
      all_goals
        go_wp2
        go_ret
        exact ⟨by rw [← HX.out, decide_eq_true h1, decide_eq_true h2]; rfl, hfin.out⟩
    · have hz2 : ¬ (s.size : Int) ≤ 64 := by omega
      cases r
      all_goals
        go_wp2
        go_ret
        exact ⟨by rw [← HX.out, decide_eq_true h1, decide_eq_false h2]; first | rfl | (simp; omega), hfin.out⟩
  · have hz1 : ¬ (0 : Int) < (s.size : Int) := by omega
    cases r
    all_goals
      go_wp2
      go_ret
      exact ⟨by rw [← HX.out, decide_eq_false h1]; rfl, hfin.out⟩
/-- A node that a call makes. -/
def NVal (S : Nat → Prop) (w : World) (n : Nd) (e : Ending) (w' : World) : Prop :=
  Below w.heap.size w w' ∧ ∃ t A la ca K lk ck, e = .returned (.agg #[.int .u8 t, .slice A la ca, .slice K lk ck]) ∧ NdC S w' n (.int .u8 t) (.slice A la ca) (.slice K lk ck)
theorem NVal.mono {S S' : Nat → Prop} {w : World} {n : Nd} {e : Ending} {w' : World} (hS : ∀ g, S g → S' g) (h : NVal S w n e w') : NVal S' w n e w' := by
  obtain ⟨hb, t, A, la, ca, K, lk, ck, e, hn⟩ := h
  exact ⟨hb, t, A, la, ca, K, lk, ck, e, NdC.mono hS _ _ _ _ hn⟩
theorem all_drop_no {α : Type} {p : α → Bool} {xs : List α} {i : Nat} {R : Bool} (hi : i < xs.length) (h : (xs.drop i).all p = R) (hp : p xs[i] = false) : R = false := by
  rw [← h, List.drop_eq_getElem_cons hi, List.all_cons, hp, Bool.false_and]
theorem all_drop_yes {α : Type} {p : α → Bool} {xs : List α} {i : Nat} {R : Bool} (hi : i < xs.length) (h : (xs.drop i).all p = R) (hp : p xs[i] = true) : (xs.drop (i + 1)).all p = R := by
  rw [← h, List.drop_eq_getElem_cons hi, List.all_cons, hp, Bool.true_and]
theorem all_drop_end {α : Type} {p : α → Bool} {xs : List α} {i : Nat} {R : Bool} (hi : ¬ i < xs.length) (h : (xs.drop i).all p = R) : R = true := by
  rw [← h, List.drop_eq_nil_of_le (by omega)]
  rfl
set_option maxRecDepth 100000 in
set_option maxHeartbeats 8000000 in
theorem rright_any (B : Nat → Prop) (A : Option Addr) (len cap : Nat) (xs : List At) (w : World) (hl : xs.length = len) (hL : Lst atE B w A xs) (hc : len ≤ cap) (hm : cap ≤ maxLen) (hT : Tabs w) :
    Calls Tryz.prog 24 #[.slice A len cap] w fun e w' => e = .returned (.bool (rightN xs)) ∧ Below w.heap.size w w' := by
  have h9 : cap ≤ 9223372036854775807 := by unfold maxLen at hm; omega
  unfold rightN
  rw [hl]
  by_cases hbad : 8 < len
  · rw [decide_eq_false (by omega), Bool.false_and]
    have hbz : (8 : Int) < (len : Int) := by omega
    clear hL
    go_enter Tryz.func24, Tryz.ntmps24
    go_wp2
    go_ret
    exact ⟨rfl, Below.refl _ _⟩
  rw [decide_eq_true (by omega), Bool.true_and]
  have hbz : ¬ (8 : Int) < (len : Int) := by omega
  obtain ⟨R, hR⟩ : ∃ x, xs.all attrOK = x := ⟨_, rfl⟩
  rw [hR]
  have HR := Lib.hid (show (xs.drop 0).all attrOK = R by rw [List.drop_zero]; exact hR)
  have HL := Lib.hid (And.intro hl hL)
  clear hl hL hR
  go_enter Tryz.func24, Tryz.ntmps24
  go_wp2_with fail
  go_loopg [3] (len + 1) (fun gk s3 wx => ∃ (i : Nat), s3 = .int .i64 i ∧ i ≤ len ∧ len - i < gk ∧ Hid ((xs.drop i).all attrOK = R ∧ Below w.heap.size w wx))
  case atStart => exact ⟨0, rfl, by omega, by omega, Lib.hid ⟨HR.out, Below.refl _ _⟩⟩
  case round =>
    obtain ⟨i, rfl, hi, hgk, HI⟩ := hrel
    clear HR
    by_cases hlt : i < len
    · have hltz : (i : Int) < (len : Int) := by omega
      obtain ⟨gk', rfl⟩ : ∃ g', gk = g' + 1 := ⟨gk - 1, by omega⟩
      have HN := Lib.hid (And.intro (show i + 1 ≤ len from hlt) (show len - (i + 1) < gk' by omega))
      have hix : i < xs.length := by rw [HL.out.1]; exact hlt
      obtain ⟨g, off, cs, rfl, hg, hcell, hold⟩ := (HL.out.2.below HI.out.2).at i hix
      obtain ⟨c0, c1, rfl, A0, l0, k0, rfl, rfl, hx1, hx2, hx3, hx4, hx5⟩ := hold
      have e0 := hcell 0 _ rfl
      have e1 := hcell 1 _ rfl
      rw [show atE.sz = 2 from rfl] at e0 e1
      rw [Nat.add_zero] at e0
      have hob := refObject_any A0 l0 k0 xs[i].oid wr hx3 hx1 hx2
      have hatt : attrOK xs[i] = (objB xs[i].oid && decide (xs[i].text.size ≤ 64) && utfS xs[i].text) := rfl
      obtain ⟨s, hs⟩ : ∃ x, xs[i].text = x := ⟨_, rfl⟩
      obtain ⟨o, ho⟩ : ∃ x, objB xs[i].oid = x := ⟨_, rfl⟩
      obtain ⟨a, ha⟩ : ∃ x, attrOK xs[i] = x := ⟨_, rfl⟩
      rw [hs] at e1 hx5
      rw [ho] at hob
      rw [ha, hs, ho] at hatt
      have hval : ∀ W, Tabs W → Calls Tryz.prog 48 #[.string s] W fun e w' => e = .returned (.bool (utfS s)) ∧ Below W.heap.size W w' := fun W hW => Any.utf8_ValidString Tryz.lays196 s W (by unfold maxLen at hx5; omega) hW
      have hs9 : s.size ≤ 9223372036854775807 := by unfold maxLen at hx5; omega
      have HO := Lib.hid hob
      have HV := Lib.hid hval
      have HA := Lib.hid (And.intro ha hatt)
      clear hob hval hatt ha hs ho hx1 hx2 hx3 hx4 hx5 hcell hgk
      go_wp2_with fail
      refine HO.out.mono ?_
      rintro e w1 ⟨rfl, q, rfl⟩
      have hbq := Lib.hid (below_then HI.out.2 (below_drewN (w := wr) q) (Nat.le_refl _))
      have hVq := HV.out (wr.drewN q) (hT.below hbq.out)
      have HVQ := Lib.hid hVq
      clear hVq HO HV
      cases o with
      | false =>
        have hR := all_drop_no hix HI.out.1 (by rw [HA.out.1, HA.out.2]; rfl)
        subst hR
        go_wp2
        go_ret
        exact ⟨rfl, hbq.out⟩
      | true =>
        by_cases h64 : s.size ≤ 64
        · have hz1 : ¬ (64 : Int) < (s.size : Int) := by omega
          obtain ⟨u, hu⟩ : ∃ x, utfS s = x := ⟨_, rfl⟩
          rw [hu] at HVQ HA
          go_wp2_with fail
          refine HVQ.out.mono ?_
          rintro e w3 ⟨rfl, hb3⟩
          have hfin := Lib.hid (below_then hbq.out hb3 (Nat.le_refl _))
          clear hb3 HVQ
          cases u with
          | false =>
            have hR := all_drop_no hix HI.out.1 (by rw [HA.out.1, HA.out.2, Bool.and_false])
            subst hR
            go_wp2
            go_ret
            exact ⟨rfl, hfin.out⟩
          | true =>
            have hst := all_drop_yes hix HI.out.1 (by rw [HA.out.1, HA.out.2, decide_eq_true h64]; rfl)
            have HST := Lib.hid hst
            clear hst
            go_wp2
            go_roundg gk'
            case measure => omega
            case rel => exact ⟨i + 1, by go_num, HN.out.1, HN.out.2, Lib.hid ⟨HST.out, hfin.out⟩⟩
        · have hz1 : (64 : Int) < (s.size : Int) := by omega
          have hR := all_drop_no hix HI.out.1 (by rw [HA.out.1, HA.out.2, decide_eq_false h64]; rfl)
          subst hR
          go_wp2
          go_ret
          exact ⟨rfl, hbq.out⟩
    · obtain rfl : len = i := by omega
      have hltz : ¬ (len : Int) < (len : Int) := by omega
      have hR := all_drop_end (by rw [HL.out.1]; omega) HI.out.1
      subst hR
      clear hgk
      go_wp2
      go_ret
      exact ⟨rfl, HI.out.2⟩
end Go.Proofs.YthcancakkkjpaaaGreatDoor.nmc
