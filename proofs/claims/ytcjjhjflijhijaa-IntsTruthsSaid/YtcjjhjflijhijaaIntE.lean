/- What a body tells is checked by writing it again: the program's Int and Bool. -/
import Derived.Test.YtcjjhjflijhijaaIntD
namespace Go.Proofs.Ytcjjhjflijhijaa.intc
open Go.RowKit Go.Proofs.Ytcjjhjflijhijaa.tlvc Go.Proofs.Ytcjjhjflijhijaa.intm
set_option linter.unusedVariables false

/-! asWritten, sure and its closure, for int64. -/
theorem sureInt_any (w : World) :
    Calls Try.prog 32 #[.func (.func 15) #[] #[]] w fun e w' => e = .returned (.func (.func 47) #[] #[.pointer (some ⟨w.heap.size, 0, none⟩)]) ∧ w' = w.alloc (.cells #[.func (.func 15) #[] #[]] 27) := by
  have hmf : ∀ (fn : Fn) (first cap : Array Value) (w : World), (Instr.makeFunc fn first cap).run Try.prog w = .ok (.func fn first cap) w := fun _ _ _ _ => rfl
  go_enter Try.func32, Try.ntmps32
  go_wp2
  go_ret
  exact ⟨rfl, rfl⟩
theorem surelyInt_any (t : Int) (ht : I64 t) (p : Nat) (w : World) (hp : w.cell? ⟨p, 0, none⟩ = some (.func (.func 15) #[] #[])) :
    Calls Try.prog 47 #[(.int .i64 t), .pointer (some ⟨p, 0, none⟩)] w (Made2 w (putI t)) := by
  go_enter Try.func47, Try.ntmps47
  go_wp2_with fail
  refine (putInt_any _ _ ht).mono ?_
  rintro e w1 ⟨A, c, rfl, hh, hb⟩
  go_wp2_with fail
  go_ret2
  exact ⟨A, c, rfl, hh, hb⟩
set_option maxHeartbeats 400000 in
theorem asInt_yes (A : Option Addr) (n c : Nat) (xs : List Int) (t : Int) (ht : I64 t) (p : Nat) (q : Int) (w : World) (hb : Bys w A n xs) (hp : w.cell? ⟨p, 0, none⟩ = some (.func (.func 15) #[] #[])) (h : putI t = xs) :
    Calls Try.prog 30 #[.slice A n c, (.int .i64 t), .int .i64 q, .func (.func 47) #[] #[.pointer (some ⟨p, 0, none⟩)]] w fun e w' => e = .returned (.tuple #[(.int .i64 t), .int .i64 0]) ∧ Below w.heap.size w w' := by
  have hs : sameB (putI t) xs = true := (sameB_iff (putI_bytes t) hb.fit).2 h
  have H := Lib.hid h
  clear h
  go_enter Try.func30, Try.ntmps30
  go_wp2_with fail
  refine (surelyInt_any t ht p _ hp).mono ?_
  rintro e w1 ⟨A1, c1, rfl, hh, hbel⟩
  go_wp2_with fail
  refine (equal_any _ _ _ _ _ _ _ _ _ hh.1 (hb.below hbel)).mono ?_
  rw [hs]
  rintro e w2 ⟨rfl, rfl⟩
  go_wp2_with fail
  go_ret2
  exact ⟨rfl, hbel⟩
set_option maxHeartbeats 400000 in
theorem asInt_no (A : Option Addr) (n c : Nat) (xs : List Int) (t : Int) (ht : I64 t) (p : Nat) (q : Int) (w : World) (hb : Bys w A n xs) (hp : w.cell? ⟨p, 0, none⟩ = some (.func (.func 15) #[] #[])) (h : ¬ putI t = xs) :
    Calls Try.prog 30 #[.slice A n c, (.int .i64 t), .int .i64 q, .func (.func 47) #[] #[.pointer (some ⟨p, 0, none⟩)]] w fun e w' => e = .returned (.tuple #[(.int .i64 0), .int .i64 q]) ∧ Below w.heap.size w w' := by
  have hs : sameB (putI t) xs = false := sameB_no (putI_bytes t) hb.fit h
  clear h
  go_enter Try.func30, Try.ntmps30
  go_wp2_with fail
  refine (surelyInt_any t ht p _ hp).mono ?_
  rintro e w1 ⟨A1, c1, rfl, hh, hbel⟩
  go_wp2_with fail
  refine (equal_any _ _ _ _ _ _ _ _ _ hh.1 (hb.below hbel)).mono ?_
  rw [hs]
  rintro e w2 ⟨rfl, rfl⟩
  go_wp2_with fail
  go_ret2
  exact ⟨rfl, hbel⟩

/-! asWritten, sure and its closure, for bool. -/
theorem sureBool_any (w : World) :
    Calls Try.prog 40 #[.func (.func 24) #[] #[]] w fun e w' => e = .returned (.func (.func 48) #[] #[.pointer (some ⟨w.heap.size, 0, none⟩)]) ∧ w' = w.alloc (.cells #[.func (.func 24) #[] #[]] 38) := by
  have hmf : ∀ (fn : Fn) (first cap : Array Value) (w : World), (Instr.makeFunc fn first cap).run Try.prog w = .ok (.func fn first cap) w := fun _ _ _ _ => rfl
  go_enter Try.func40, Try.ntmps40
  go_wp2
  go_ret
  exact ⟨rfl, rfl⟩
theorem surelyBool_any (t : Bool)  (p : Nat) (w : World) (hp : w.cell? ⟨p, 0, none⟩ = some (.func (.func 24) #[] #[])) :
    Calls Try.prog 48 #[(.bool t), .pointer (some ⟨p, 0, none⟩)] w (Made2 w (boolB t)) := by
  go_enter Try.func48, Try.ntmps48
  go_wp2_with fail
  refine (putBool_any _ _).mono ?_
  rintro e w1 ⟨A, c, rfl, hh, hb⟩
  go_wp2_with fail
  go_ret2
  exact ⟨A, c, rfl, hh, hb⟩
set_option maxHeartbeats 400000 in
theorem asBool_yes (A : Option Addr) (n c : Nat) (xs : List Int) (t : Bool)  (p : Nat) (q : Int) (w : World) (hb : Bys w A n xs) (hp : w.cell? ⟨p, 0, none⟩ = some (.func (.func 24) #[] #[])) (h : boolB t = xs) :
    Calls Try.prog 39 #[.slice A n c, (.bool t), .int .i64 q, .func (.func 48) #[] #[.pointer (some ⟨p, 0, none⟩)]] w fun e w' => e = .returned (.tuple #[(.bool t), .int .i64 0]) ∧ Below w.heap.size w w' := by
  have hs : sameB (boolB t) xs = true := (sameB_iff (boolB_fit t) hb.fit).2 h
  have H := Lib.hid h
  clear h
  go_enter Try.func39, Try.ntmps39
  go_wp2_with fail
  refine (surelyBool_any t  p _ hp).mono ?_
  rintro e w1 ⟨A1, c1, rfl, hh, hbel⟩
  go_wp2_with fail
  refine (equal_any _ _ _ _ _ _ _ _ _ hh.1 (hb.below hbel)).mono ?_
  rw [hs]
  rintro e w2 ⟨rfl, rfl⟩
  go_wp2_with fail
  go_ret2
  exact ⟨rfl, hbel⟩
set_option maxHeartbeats 400000 in
theorem asBool_no (A : Option Addr) (n c : Nat) (xs : List Int) (t : Bool)  (p : Nat) (q : Int) (w : World) (hb : Bys w A n xs) (hp : w.cell? ⟨p, 0, none⟩ = some (.func (.func 24) #[] #[])) (h : ¬ boolB t = xs) :
    Calls Try.prog 39 #[.slice A n c, (.bool t), .int .i64 q, .func (.func 48) #[] #[.pointer (some ⟨p, 0, none⟩)]] w fun e w' => e = .returned (.tuple #[(.bool false), .int .i64 q]) ∧ Below w.heap.size w w' := by
  have hs : sameB (boolB t) xs = false := sameB_no (boolB_fit t) hb.fit h
  clear h
  go_enter Try.func39, Try.ntmps39
  go_wp2_with fail
  refine (surelyBool_any t  p _ hp).mono ?_
  rintro e w1 ⟨A1, c1, rfl, hh, hbel⟩
  go_wp2_with fail
  refine (equal_any _ _ _ _ _ _ _ _ _ hh.1 (hb.below hbel)).mono ?_
  rw [hs]
  rintro e w2 ⟨rfl, rfl⟩
  go_wp2_with fail
  go_ret2
  exact ⟨rfl, hbel⟩

/-- What Int answers: the number and the error. -/
def intF (xs : List Int) : Int × Int := if putI (dec (xs.take 8)) = xs then (dec (xs.take 8), 0) else (0, 21)

def Told (w : World) (v : Value) (q : Int) (e : Ending) (w' : World) : Prop := e = .returned (.tuple #[v, .int .i64 q]) ∧ Below w.heap.size w w'

theorem take_i64 {xs : List Int} (h : Fit xs) : I64 (dec (xs.take 8)) := dec_i64 (by rw [List.length_take]; omega) fun x hx => h x (List.mem_of_mem_take hx)

set_option maxHeartbeats 400000 in
theorem int_any (A : Option Addr) (n c : Nat) (xs : List Int) (w : World) (hb : Bys w A n xs) (hc : n ≤ c) (hm : c ≤ maxLen) :
    Calls Try.prog 13 #[.slice A n c] w (Told w (.int .i64 (intF xs).1) (intF xs).2) := by
  have ht := take_i64 hb.fit
  have hcell : ∀ w : World, (w.alloc (.cells #[.func (.func 15) #[] #[]] 27)).cell? ⟨w.heap.size, 0, none⟩ = some (.func (.func 15) #[] #[]) := fun w => by simp
  by_cases h : putI (dec (xs.take 8)) = xs
  · have e1 : (intF xs).1 = dec (xs.take 8) := by unfold intF; rw [if_pos h]
    have e2 : (intF xs).2 = 0 := by unfold intF; rw [if_pos h]
    rw [e1, e2]
    have H := Lib.hid h
    have HC := Lib.hid hcell
    clear h e1 e2 hcell
    go_enter Try.func13, Try.ntmps13
    go_wp2_with fail
    refine (number_any _ _ _ _ _ hb hc hm).mono ?_
    rintro e w' ⟨rfl, rfl⟩
    go_wp2_with fail
    refine (sureInt_any _).mono ?_
    rintro e w' ⟨rfl, rfl⟩
    go_wp2_with fail
    refine (asInt_yes _ _ _ _ _ ht _ _ _ (hb.alloc _) (HC.out _) H.out).mono ?_
    rintro e w' ⟨rfl, hbel⟩
    go_wp2_with fail
    go_ret2
    exact ⟨rfl, ((Below.refl _ _).alloc (Nat.le_refl _) _).trans (hbel.mono (by simp))⟩
  · have e1 : (intF xs).1 = 0 := by unfold intF; rw [if_neg h]
    have e2 : (intF xs).2 = 21 := by unfold intF; rw [if_neg h]
    rw [e1, e2]
    have H := Lib.hid h
    have HC := Lib.hid hcell
    clear h e1 e2 hcell
    go_enter Try.func13, Try.ntmps13
    go_wp2_with fail
    refine (number_any _ _ _ _ _ hb hc hm).mono ?_
    rintro e w' ⟨rfl, rfl⟩
    go_wp2_with fail
    refine (sureInt_any _).mono ?_
    rintro e w' ⟨rfl, rfl⟩
    go_wp2_with fail
    refine (asInt_no _ _ _ _ _ ht _ _ _ (hb.alloc _) (HC.out _) H.out).mono ?_
    rintro e w' ⟨rfl, hbel⟩
    go_wp2_with fail
    go_ret2
    exact ⟨rfl, ((Below.refl _ _).alloc (Nat.le_refl _) _).trans (hbel.mono (by simp))⟩

/-- What Bool answers. -/
def toldB (xs : List Int) : Bool := decide (0 < xs.length) && (xs.getD 0 0 == 255)
def boolF (xs : List Int) : Bool × Int := if boolB (toldB xs) = xs then (toldB xs, 0) else (false, 23)
end Go.Proofs.Ytcjjhjflijhijaa.intc
