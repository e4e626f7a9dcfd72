/- The document's own Time, walked: for all. -/
import Derived.Test.YtaafgohaikhekaaDoorTxZ5
namespace Go.Proofs.YtaafgohaikhekaaDoor.txc
open Go.RowKit Go.Proofs.YtaafgohaikhekaaDoor.txm Go.Proofs.YtaafgohaikhekaaDoor.tlvc
set_option linter.unusedVariables false
set_option linter.unusedSimpArgs false

theorem refTime_any (t : Int) (A : Option Addr) (n cap : Nat) (xs : List Int) (w : World) (hx : Bys w A n xs) (hc : n ≤ cap) (hm : cap ≤ 9223372036854775807) :
    Calls Tryd.prog 44 #[.int .u8 t, .slice A n cap] w (TimeIs t xs w) := by
  obtain rfl : xs.length = n := hx.1
  by_cases h1 : t = 23 ∧ xs.length = 13
  · obtain ⟨rfl, hl⟩ := h1
    rw [hl] at hx hc ⊢
    rcases Int.lt_or_le (dig2 (xs.getD 0 0) (xs.getD 1 0)) 50 with h | h
    · exact refTime_23a A cap xs w hx hc hm h
    · exact refTime_23b A cap xs w hx hc hm h
  · by_cases h2 : t = 24 ∧ xs.length = 15
    · obtain ⟨rfl, hl⟩ := h2
      rw [hl] at hx hc ⊢
      exact refTime_24 A cap xs w hx hc hm
    · exact refTime_else t A cap xs w h1 h2 (by omega)
end Go.Proofs.YtaafgohaikhekaaDoor.txc
