/- The program's OID. -/
import Derived.Test.YtcjjhjflijhijaaIntL
namespace Go.Proofs.Ytcjjhjflijhijaa.intc
open Go.RowKit Go.Proofs.Ytcjjhjflijhijaa.tlvc Go.Proofs.Ytcjjhjflijhijaa.intm
set_option linter.unusedVariables false

def IOMade (w : World) (ys : List Int) (er : Int) (e : Ending) (w' : World) : Prop :=
  ∃ A c, e = .returned (.tuple #[.slice A ys.length c, .int .i64 er]) ∧ IHere w.heap.size A c ys w' ∧ Below w.heap.size w w'
theorem ioMade_none (w w' : World) (er : Int) (h : Below w.heap.size w w') : IOMade w [] er (.returned (.tuple #[.slice none 0 0, .int .i64 er])) w' :=
  ⟨none, 0, rfl, ⟨Ins.nil_ _ _, Nat.le_refl _, Nat.zero_le _, fun _ _ h => by cases h⟩, h⟩

theorem putO_yes {l : List Int} (h : objB l = true) : putO l = (encO l, 0) := by unfold putO; rw [if_pos h]
theorem putO_no {l : List Int} (h : objB l = false) : putO l = ([], 22) := by unfold putO; rw [h]; rfl

set_option maxHeartbeats 400000 in
theorem asOID_bad (A A1 : Option Addr) (n c m c1 : Nat) (xs l : List Int) (w : World) (hb : Bys w A n xs) (hi : Ins w A1 m l) (hc1 : m ≤ c1) (hm1 : c1 ≤ maxLen) (h : objB l = false) :
    Calls Try.prog 37 #[.slice A n c, .slice A1 m c1, .int .i64 22, .func (.func 17) #[] #[]] w fun e w' => e = .returned (.tuple #[.slice none 0 0, .int .i64 22]) ∧ Below w.heap.size w w' := by
  go_enter Try.func37, Try.ntmps37
  go_wp2_with fail
  refine (putOID_any _ _ _ _ _ hi hc1 hm1).mono ?_
  rw [putO_no h]
  rintro e w1 ⟨A2, c2, rfl, hh, hbel⟩
  go_wp2_with fail
  go_ret2
  exact ⟨rfl, hbel⟩
set_option maxHeartbeats 400000 in
theorem asOID_no (A A1 : Option Addr) (n c m c1 : Nat) (xs l : List Int) (w : World) (hb : Bys w A n xs) (hi : Ins w A1 m l) (hc1 : m ≤ c1) (hm1 : c1 ≤ maxLen) (h : objB l = true) (hne : ¬ encO l = xs) :
    Calls Try.prog 37 #[.slice A n c, .slice A1 m c1, .int .i64 22, .func (.func 17) #[] #[]] w fun e w' => e = .returned (.tuple #[.slice none 0 0, .int .i64 22]) ∧ Below w.heap.size w w' := by
  have hs : sameB (encO l) xs = false := sameB_no (encO_bytes l) hb.fit hne
  clear hne
  go_enter Try.func37, Try.ntmps37
  go_wp2_with fail
  refine (putOID_any _ _ _ _ _ hi hc1 hm1).mono ?_
  rw [putO_yes h]
  rintro e w1 ⟨A2, c2, rfl, hh, hbel⟩
  go_wp2_with fail
  refine (equal_any _ _ _ _ _ _ _ _ _ hh.1 (hb.below hbel)).mono ?_
  rw [hs]
  rintro e w2 ⟨rfl, rfl⟩
  go_wp2_with fail
  go_ret2
  exact ⟨rfl, hbel⟩
set_option maxHeartbeats 400000 in
theorem asOID_yes (A A1 : Option Addr) (n c m c1 : Nat) (xs l : List Int) (w : World) (hb : Bys w A n xs) (hi : Ins w A1 m l) (hc1 : m ≤ c1) (hm1 : c1 ≤ maxLen) (h : objB l = true) (he : encO l = xs) :
    Calls Try.prog 37 #[.slice A n c, .slice A1 m c1, .int .i64 22, .func (.func 17) #[] #[]] w fun e w' => e = .returned (.tuple #[.slice A1 m c1, .int .i64 0]) ∧ Below w.heap.size w w' := by
  have hs : sameB (encO l) xs = true := (sameB_iff (encO_bytes l) hb.fit).2 he
  have HE := Lib.hid he
  clear he
  go_enter Try.func37, Try.ntmps37
  go_wp2_with fail
  refine (putOID_any _ _ _ _ _ hi hc1 hm1).mono ?_
  rw [putO_yes h]
  rintro e w1 ⟨A2, c2, rfl, hh, hbel⟩
  go_wp2_with fail
  refine (equal_any _ _ _ _ _ _ _ _ _ hh.1 (hb.below hbel)).mono ?_
  rw [hs]
  rintro e w2 ⟨rfl, rfl⟩
  go_wp2_with fail
  go_ret2
  exact ⟨rfl, hbel⟩

theorem iHere_below {B : Nat} {A : Option Addr} {c : Nat} {ys : List Int} {w w' : World} (h : IHere B A c ys w) (hb : Below w.heap.size w w') : IHere B A c ys w' := ⟨h.1.below hb, h.2⟩

set_option maxHeartbeats 400000 in
theorem oid_any (A : Option Addr) (n c : Nat) (xs : List Int) (w : World) (hb : Bys w A n xs) (hc : n ≤ c) (hm : c ≤ maxLen) :
    Calls Try.prog 19 #[.slice A n c] w (IOMade w (oidF xs).1 (oidF xs).2) := by
  by_cases ho : objB (arcsF (xs.take 60)) = true
  · by_cases he : encO (arcsF (xs.take 60)) = xs
    · have e : oidF xs = (arcsF (xs.take 60), 0) := by unfold oidF; rw [if_pos ⟨ho, he⟩]
      rw [e]
      have HO := Lib.hid ho
      have HE := Lib.hid he
      clear e ho he
      go_enter Try.func19, Try.ntmps19
      go_wp2_with fail
      refine (arcsOf_any _ _ _ _ _ hb hc hm).mono ?_
      rintro e w1 ⟨A1, c1, rfl, hh, hbel⟩
      go_wp2_with fail
      refine (asOID_yes _ _ _ _ _ _ _ _ _ (hb.below hbel) hh.1 hh.2.1 hh.2.2.1 HO.out HE.out).mono ?_
      rintro e w2 ⟨rfl, hbel2⟩
      go_wp2_with fail
      go_ret2
      exact ⟨A1, c1, rfl, iHere_below hh hbel2, hbel.trans (hbel2.mono hbel.size)⟩
    · have e : oidF xs = ([], 22) := by unfold oidF; rw [if_neg fun h => he h.2]
      rw [e]
      have HO := Lib.hid ho
      have HE := Lib.hid he
      clear e ho he
      go_enter Try.func19, Try.ntmps19
      go_wp2_with fail
      refine (arcsOf_any _ _ _ _ _ hb hc hm).mono ?_
      rintro e w1 ⟨A1, c1, rfl, hh, hbel⟩
      go_wp2_with fail
      refine (asOID_no _ _ _ _ _ _ _ _ _ (hb.below hbel) hh.1 hh.2.1 hh.2.2.1 HO.out HE.out).mono ?_
      rintro e w2 ⟨rfl, hbel2⟩
      go_wp2_with fail
      go_ret2
      exact ioMade_none _ _ _ (hbel.trans (hbel2.mono hbel.size))
  · have e : oidF xs = ([], 22) := by unfold oidF; rw [if_neg fun h => ho h.1]
    have ho' : objB (arcsF (xs.take 60)) = false := by simpa using ho
    rw [e]
    have HO := Lib.hid ho'
    clear e ho ho'
    go_enter Try.func19, Try.ntmps19
    go_wp2_with fail
    refine (arcsOf_any _ _ _ _ _ hb hc hm).mono ?_
    rintro e w1 ⟨A1, c1, rfl, hh, hbel⟩
    go_wp2_with fail
    refine (asOID_bad _ _ _ _ _ _ _ _ _ (hb.below hbel) hh.1 hh.2.1 hh.2.2.1 HO.out).mono ?_
    rintro e w2 ⟨rfl, hbel2⟩
    go_wp2_with fail
    go_ret2
    exact ioMade_none _ _ _ (hbel.trans (hbel2.mono hbel.size))
end Go.Proofs.Ytcjjhjflijhijaa.intc
