/- What the law IntsArcs needs: plain facts. -/
import Derived.Test.YtcjjhjflijhijaaIntZ
namespace Go.Proofs.Ytcjjhjflijhijaa.intc
open Go.RowKit Go.Proofs.Ytcjjhjflijhijaa.tlvc Go.Proofs.Ytcjjhjflijhijaa.intm
set_option linter.unusedVariables false

theorem str_all {w : World} {A : Option Addr} {n : Nat} {xs : List Int} (h : Bys w A n xs) (c : Nat) :
    ∀ q, (convert 22 9 (.slice A n c)).run Try.prog (w.drewN q) = .ok (.string (strOfNums xs)) (w.drewN q) :=
  fun q => str_now (w := w.drewN q) h c
theorem obj_snoc {l : List Int} {m : Int} (h : objB l = true) (h0 : 0 ≤ m) (h1 : m ≤ 268435455) (hl : l.length < 16) : objB (l ++ [m]) = true := by
  have h := (objB_iff l).1 h
  rw [objB_iff]
  match l, h with
  | a :: b :: r, ⟨h2, h3, h4, h5, h6, h7⟩ =>
    refine ⟨by simp, by simp at hl ⊢; omega, ?_, h5, h6, h7⟩
    intro x hx
    rcases List.mem_append.1 hx with h' | h'
    · exact h4 x h'
    · simp at h'; omega
theorem encO_snoc {l : List Int} {m : Int} (h : 2 ≤ l.length) : encO (l ++ [m]) = encO l ++ digs m := by
  match l, h with
  | a :: b :: r, _ =>
    show body ((40 * a + b) :: (r ++ [m])) = body ((40 * a + b) :: r) ++ digs m
    rw [body_cons, body_cons, body_append, body_cons, body_nil]
    simp
theorem digs_pos (m : Int) : 0 < (digs m).length := by simp [digs]
end Go.Proofs.Ytcjjhjflijhijaa.intc
