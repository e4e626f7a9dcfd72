/- What the laws of warderlaw02 share. -/
import Derived.Test.YtcjjhjflijhijaaIntT
import Derived.Test.YtcjjhjflijhijaaIntY
namespace Go.Proofs.Ytcjjhjflijhijaa.intc
open Go.RowKit Go.Proofs.Ytcjjhjflijhijaa.tlvc Go.Proofs.Ytcjjhjflijhijaa.intm
set_option linter.unusedVariables false

theorem then_ {w a b : World} (h : Below w.heap.size w a) (k : Below a.heap.size a b) : Below w.heap.size w b := h.trans (k.mono h.size)
theorem i64_of {n : Int} (h : (Lit.int .i64 n).wf = true) : I64 n := by
  have := bounds_i64 h
  unfold I64; omega
theorem here_bys {B : Nat} {A : Option Addr} {c : Nat} {ys : List Int} {w : World} (h : Here B A c ys w) : Bys w A ys.length ys := h.1
end Go.Proofs.Ytcjjhjflijhijaa.intc
