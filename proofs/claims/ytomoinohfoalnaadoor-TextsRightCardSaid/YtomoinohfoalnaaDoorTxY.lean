/- What the rows' list gives: the library's two tables; strings among the arguments. -/
import Derived.Test.YtomoinohfoalnaaDoorTxX
import Derived.Test.YtomoinohfoalnaaDoorTlvO
import Derived.Test.YtomoinohfoalnaaDoorKitP
import Derived.Test.YtomoinohfoalnaaDoorShelf
import Derived.Lib.LaidU8T
import Derived.MakeChecks
namespace Go.Proofs.YtomoinohfoalnaaDoor.txc
open Go.ChangeShapes Go.WideShapes Go.ChangeAt Go.RowKit
set_option linter.unusedVariables false

/-- The library's two tables are as its text lays them. -/
def Tabs (w : World) : Prop := Lib.Utf8Tabs 0 1 w
theorem first_eq : Rows.laid_unicode_utf8_first = Lib.firstData := by kernel_rfl
theorem accept_eq : (Rows.laid_unicode_utf8_acceptRanges : DataW Unit) = Lib.acceptData := by kernel_rfl
theorem u8extra : U8Extra Tryd.prog Tryd.lays196_ren := ⟨by kernel_rfl, by kernel_rfl, by kernel_rfl, by kernel_rfl, by kernel_rfl, by kernel_rfl, by kernel_rfl⟩
theorem tabs_of {W : World} (h : laidMetH Tryd.prog theLaid W) : Tabs W := by
  rw [Go.MakeChecks.laidMetH_plain _ _ _ (by kernel_rfl)] at h
  have h1 := Lib.laidMet.reads h (.head _)
  have h2 := Lib.laidMet.reads h (.tail _ (.head _))
  rw [accept_eq] at h1
  rw [first_eq] at h2
  exact utf8Tabs_of_readsT (U8Types.of196 Tryd.lays196) u8extra h2 h1

theorem str_reach {H : Type} {P : Program} {ts : List TypeId} {ds : List (DataW H)} (hsz : (DataW.weightsEach P ts ds).all (· ≤ reachBytes) = true) {j : Nat} {t : TypeId} {s : ByteArray} (h1 : ts[j]? = some t) (h2 : ds[j]? = some (.lit (.string s.data.toList))) : s.size ≤ 140737488351232 := by
  have := sized_string hsz h1 h2
  have e : s.data.toList.length = s.size := Array.length_toList
  rw [e] at this
  simpa [reachBytes] using this
theorem str_small {H : Type} {ds : List (DataW H)} (hk : Rows.uptoSmall H ds = true) {j : Nat} {s : ByteArray} (h2 : ds[j]? = some (.lit (.string s.data.toList))) : s.size ≤ 1048576 := by
  have h1 : Rows.uptoBulkAll ds ≤ 1048576 := of_decide_eq_true hk
  have h3 := tlvc.bulk_in h2
  have e : s.data.toList.length = s.size := Array.length_toList
  simp only [Rows.uptoBulk, e] at h3
  omega
end Go.Proofs.YtomoinohfoalnaaDoor.txc
