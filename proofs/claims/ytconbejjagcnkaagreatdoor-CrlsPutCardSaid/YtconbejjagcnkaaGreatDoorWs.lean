/- The library's tables as its text lays them. -/
import Derived.Test.YtconbejjagcnkaaGreatDoorXc
import Derived.Test.YtconbejjagcnkaaGreatDoorRows
import Derived.ProofKit
import Derived.Deep.DeepHandedRow
import Derived.Lib.LaidTab
import Derived.Test.YtconbejjagcnkaaGreatDoorKb
import Derived.Test.YtconbejjagcnkaaGreatDoorShelf
import Derived.Lib.LaidU8T
import Derived.MakeChecks
import Derived.Lib.ValidLaws
import Derived.Lib.DecodeN
set_option linter.unusedVariables false
namespace Go.Proofs.YtconbejjagcnkaaGreatDoor.txc
open Go.ChangeShapes Go.WideShapes Go.ChangeAt Go.RowKit
def acceptCells:Array Value:=#[.int .u8 128,.int .u8 191,.int .u8 160,.int .u8 191,.int .u8 128,.int .u8 159,.int .u8 144,.int .u8 191,.int .u8 128,.int .u8 143,.int .u8 0,.int .u8 0,.int .u8 0,.int .u8 0,.int .u8 0,.int .u8 0,.int .u8 0,.int .u8 0,.int .u8 0,.int .u8 0,.int .u8 0,.int .u8 0,.int .u8 0,.int .u8 0,.int .u8 0,.int .u8 0,.int .u8 0,.int .u8 0,.int .u8 0,.int .u8 0,.int .u8 0,.int .u8 0]
def putFirst:Obj→Obj
  | .cells _ t frozen=>.cells firstCells t frozen
  |o=>o
def putAccept:Obj→Obj
  | .cells _ t frozen=>.cells acceptCells t frozen
  |o=>o
noncomputable def laidWorld (os:Os):World:=
  {World.holding Tryz.prog os ⟨#[],#[],[]⟩ with heap:=((World.holding Tryz.prog os ⟨#[],#[],[]⟩).heap.modify 0 putFirst).modify 1 putAccept}
def theLaid:List (String × DataW Unit):=[("unicode/utf8.acceptRanges",Rows.laid_unicode_utf8_acceptRanges),("unicode/utf8.first",Rows.laid_unicode_utf8_first)]
theorem laid_met (os:Os)(args:Array Value):laidMet Tryz.prog theLaid ((laidWorld os).forCall (fun _ _=>0) ⟨#[],args,[]⟩).memory:=
  laidMet_of_run' 8 (by kernel_rfl) (by kernel_rfl)
theorem first_eq:Rows.laid_unicode_utf8_first=Lib.firstData:=by kernel_rfl
theorem accept_eq:(Rows.laid_unicode_utf8_acceptRanges:DataW Unit)=Lib.acceptData:=by kernel_rfl
theorem u8extra:U8Extra Tryz.prog Tryz.lays196_ren:=⟨by kernel_rfl,by kernel_rfl,by kernel_rfl,by kernel_rfl,by kernel_rfl,by kernel_rfl,by kernel_rfl⟩
theorem tabs_of {W:World}(h:laidMetH Tryz.prog theLaid W):Tabs W:=by
  rw[Go.MakeChecks.laidMetH_plain _ _ _ (by kernel_rfl)] at h
  have h1:=Lib.laidMet.reads h (.head _)
  have h2:=Lib.laidMet.reads h (.tail _ (.head _))
  rw[accept_eq] at h1
  rw[first_eq] at h2
  exact utf8Tabs_of_readsT (U8Types.of196 Tryz.lays196) u8extra h2 h1

theorem str_reach {H:Type}{P:Program}{ts:List TypeId}{ds:List (DataW H)}(hsz:(DataW.weightsEach P ts ds).all (· ≤reachBytes)=true){j:Nat}{t:TypeId}{s:ByteArray}(h1:ts[j]? =some t)(h2:ds[j]? =some (.lit (.string s.data.toList))):s.size≤140737488351232:=by
  have:=sized_string hsz h1 h2
  have e:s.data.toList.length=s.size:=Array.length_toList
  rw[e] at this
  simpa[reachBytes] using this
theorem str_small {H:Type}{ds:List (DataW H)}(hk:Rows.uptoSmall H ds=true){j:Nat}{s:ByteArray}(h2:ds[j]? =some (.lit (.string s.data.toList))):s.size≤1048576:=by
  have h1:Rows.uptoBulkAll ds≤1048576:=of_decide_eq_true hk
  have h3:=tlvc.bulk_in h2
  have e:s.data.toList.length=s.size:=Array.length_toList
  simp only[Rows.uptoBulk,e] at h3
  omega
end Go.Proofs.YtconbejjagcnkaaGreatDoor.txc
