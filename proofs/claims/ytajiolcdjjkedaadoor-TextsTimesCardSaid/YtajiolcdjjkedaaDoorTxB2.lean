/- More plain facts on the bodies of times. -/
import Derived.Test.YtajiolcdjjkedaaDoorTxB
namespace Go.Proofs.YtajiolcdjjkedaaDoor.txm
/-- A day later the clock shows the same. -/
def tail7 (s : Int) : List Int := wr2 ((s + 631152000) / 60 / 60 % 24) ++ wr2 ((s + 631152000) / 60 % 60) ++ wr2 ((s + 631152000) % 60) ++ [90]
theorem tail7_next (s : Int) : tail7 (s + 86400) = tail7 s := by
  have e1 : (s + 86400 + 631152000) / 60 / 60 % 24 = (s + 631152000) / 60 / 60 % 24 := by omega
  have e2 : (s + 86400 + 631152000) / 60 % 60 = (s + 631152000) / 60 % 60 := by omega
  have e3 : (s + 86400 + 631152000) % 60 = (s + 631152000) % 60 := by omega
  unfold tail7; rw [e1, e2, e3]
theorem body_tail (s : Int) : (bodyOf s).drop ((bodyOf s).length - 7) = tail7 s := by
  rw [bodyOf_len]
  unfold bodyOf tagOf
  split <;> simp [wrs, clk, wr2, tail7]
theorem body_next {s : Int} (h : InR s) (h2 : InR (s + 86400)) : ¬ (tagOf s = tagOf (s + 86400) ∧ bodyOf s = bodyOf (s + 86400)) := by
  rintro ⟨e1, e2⟩
  have a := sec_back h
  have b := sec_back h2
  rw [e1, e2, b] at a
  omega
end Go.Proofs.YtajiolcdjjkedaaDoor.txm
