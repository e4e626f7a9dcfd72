/- The program's Right. A world in which the library's two tabl -/
import Derived.Test.YtconbejjagcnkaaDoorXa
import Derived.Test.YtconbejjagcnkaaDoorXb
import Derived.Test.YtconbejjagcnkaaDoorRows
import Derived.ProofKit
import Derived.Deep.DeepHandedRow
import Derived.Lib.LaidTab
import Derived.Test.YtconbejjagcnkaaDoorKb
import Derived.Test.YtconbejjagcnkaaDoorShelf
import Derived.Lib.LaidU8T
import Derived.MakeChecks
import Derived.Lib.ValidLaws
import Derived.Lib.DecodeN
set_option maxRecDepth 100000
set_option maxHeartbeats 400000
set_option linter.unusedVariables false
set_option linter.unusedSimpArgs false
namespace Go.Proofs.YtconbejjagcnkaaDoor.txc
open Go.RowKit txm tlvc
theorem all19 (s:ByteArray)(w:World)(hs:s.size≤9223372036854775807):
 Calls Tryd.prog 89 #[.string s,.func (.func 90) #[] #[]] w fun e w'=>e=.returned (.bool ((runes s).all (okR 19)))∧Below w.heap.size w w':=
 all_any (okR 19) 90 s w hs (enters_of Tryd.func90 (by kernel_rfl) rfl) fun r w=>print_any r w
theorem all22 (s:ByteArray)(w:World)(hs:s.size≤9223372036854775807):
 Calls Tryd.prog 89 #[.string s,.func (.func 91) #[] #[]] w fun e w'=>e=.returned (.bool ((runes s).all (okR 22)))∧Below w.heap.size w w':=
 all_any (okR 22) 91 s w hs (enters_of Tryd.func91 (by kernel_rfl) rfl) fun r w=>lit22_any r w
theorem all27 (s:ByteArray)(w:World)(hs:s.size≤9223372036854775807):
 Calls Tryd.prog 89 #[.string s,.func (.func 92) #[] #[]] w fun e w'=>e=.returned (.bool ((runes s).all (okR 27)))∧Below w.heap.size w w':=
 all_any (okR 27) 92 s w hs (enters_of Tryd.func92 (by kernel_rfl) rfl) fun r w=>lit27_any r w
def rightB (t:Int)(xs:List Int):Bool:=if t=19∨t=22∨t=27 then (runes (strOfNums xs)).all (okR t) else false
theorem right_any (t:Int)(A:Option Addr)(n c:Nat)(xs:List Int)(w:World)(ht:t≠12)(hx:Bys w A n xs)(hn:n≤maxLen):
 Calls Tryd.prog 81 #[.int .u8 t,.slice A n c] w fun e w'=>e=.returned (.bool (rightB t xs))∧Below w.heap.size w w':=by
 have hcv:=str_now hx c
 have hsz:(strOfNums xs).size≤9223372036854775807:=by rw[strOfNums_size,hx.1];exact hn
 obtain⟨s,hs⟩:=nm_ (strOfNums xs)
 unfold rightB
 rw[hs] at hcv hsz⊢
 clear hs
 have h12:(t==12)=false:=by simpa using ht
 by_cases h19:t=19
 ·subst h19
  rw[if_pos (.inl rfl)]
  go_enter Tryd.func81,Tryd.ntmps81
  go_wp2_with fail
  refine(all19 _ _ hsz).mono ?_
  rintro e w' ⟨rfl,hb⟩
  go_wp2
  go_ret
  exact⟨rfl,hb⟩
 ·have h19b:(t==19)=false:=by simpa using h19
  by_cases h22:t=22
  ·subst h22
   rw[if_pos (.inr (.inl rfl))]
   go_enter Tryd.func81,Tryd.ntmps81
   go_wp2_with fail
   refine(all22 _ _ hsz).mono ?_
   rintro e w' ⟨rfl,hb⟩
   go_wp2
   go_ret
   exact⟨rfl,hb⟩
  ·have h22b:(t==22)=false:=by simpa using h22
   by_cases h27:t=27
   ·subst h27
    rw[if_pos (.inr (.inr rfl))]
    go_enter Tryd.func81,Tryd.ntmps81
    go_wp2_with fail
    refine(all27 _ _ hsz).mono ?_
    rintro e w' ⟨rfl,hb⟩
    go_wp2
    go_ret
    exact⟨rfl,hb⟩
   ·have h27b:(t==27)=false:=by simpa using h27
    rw[if_neg (by rintro(h |h |h)<;>contradiction)]
    clear h19 h22 h27 ht
    go_enter Tryd.func81,Tryd.ntmps81
    go_wp2
    go_ret
    exact⟨rfl,br_ _ _⟩
end Go.Proofs.YtconbejjagcnkaaDoor.txc
namespace Go.Proofs.YtconbejjagcnkaaDoor.txc
open Go.ChangeShapes Go.WideShapes Go.ChangeAt Go.RowKit
def firstCells:Array Value:=((Go.Pinned.utf8FirstZ).map (fun(n:Nat)=>Value.int .u8 (Int.ofNat n))).toArray
def acceptCells:Array Value:=#[.int .u8 128,.int .u8 191,.int .u8 160,.int .u8 191,.int .u8 128,.int .u8 159,.int .u8 144,.int .u8 191,.int .u8 128,.int .u8 143,.int .u8 0,.int .u8 0,.int .u8 0,.int .u8 0,.int .u8 0,.int .u8 0,.int .u8 0,.int .u8 0,.int .u8 0,.int .u8 0,.int .u8 0,.int .u8 0,.int .u8 0,.int .u8 0,.int .u8 0,.int .u8 0,.int .u8 0,.int .u8 0,.int .u8 0,.int .u8 0,.int .u8 0,.int .u8 0]
def putFirst:Obj→Obj
 | .cells _ t frozen=>.cells firstCells t frozen
 |o=>o
def putAccept:Obj→Obj
 | .cells _ t frozen=>.cells acceptCells t frozen
 |o=>o
noncomputable def laidWorld (os:Os):World:=
 {World.holding Tryd.prog os ⟨#[],#[],[]⟩ with heap:=((World.holding Tryd.prog os ⟨#[],#[],[]⟩).heap.modify 0 putFirst).modify 1 putAccept}
def theLaid:List (String × DataW Unit):=[("unicode/utf8.acceptRanges",Rows.laid_unicode_utf8_acceptRanges),("unicode/utf8.first",Rows.laid_unicode_utf8_first)]
theorem laid_met (os:Os)(args:Array Value):laidMet Tryd.prog theLaid ((laidWorld os).forCall (fun _ _=>0) ⟨#[],args,[]⟩).memory:=
 laidMet_of_run' 8 (by kernel_rfl) (by kernel_rfl)
end Go.Proofs.YtconbejjagcnkaaDoor.txc
namespace Go.Proofs.YtconbejjagcnkaaDoor.txc
open Go.ChangeShapes Go.WideShapes Go.ChangeAt Go.RowKit
def Tabs (w:World):Prop:=Lib.Utf8Tabs 0 1 w
theorem first_eq:Rows.laid_unicode_utf8_first=Lib.firstData:=by kernel_rfl
theorem accept_eq:(Rows.laid_unicode_utf8_acceptRanges:DataW Unit)=Lib.acceptData:=by kernel_rfl
theorem u8extra:U8Extra Tryd.prog Tryd.lays196_ren:=⟨by kernel_rfl,by kernel_rfl,by kernel_rfl,by kernel_rfl,by kernel_rfl,by kernel_rfl,by kernel_rfl⟩
theorem tabs_of {W:World}(h:laidMetH Tryd.prog theLaid W):Tabs W:=by
 rw[Go.MakeChecks.laidMetH_plain _ _ _ (by kernel_rfl)] at h
 have h1:=Lib.laidMet.reads h (.head _)
 have h2:=Lib.laidMet.reads h (.tail _ (.head _))
 rw[accept_eq] at h1
 rw[first_eq] at h2
 exact utf8Tabs_of_readsT (U8Types.of196 Tryd.lays196) u8extra h2 h1
end Go.Proofs.YtconbejjagcnkaaDoor.txc
namespace Go.Proofs.YtconbejjagcnkaaDoor.txm
open tlvc
end Go.Proofs.YtconbejjagcnkaaDoor.txm
namespace Go.Proofs.YtconbejjagcnkaaDoor.txc
open Go.RowKit txm tlvc
theorem Tabs.below {w w':World}(h:Tabs w)(hb:Below w.heap.size w w'):Tabs w':=Utf8Tabs_below h hb
def utfB (xs:List Int):Bool:=Lib.validD (strOfNums xs).data.toList
theorem right_utf (A:Option Addr)(n c:Nat)(xs:List Int)(w:World)(hx:Bys w A n xs)(hn:n≤maxLen)(hT:Tabs w):
 Calls Tryd.prog 81 #[.int .u8 12,.slice A n c] w fun e w'=>e=.returned (.bool (utfB xs))∧Below w.heap.size w w':=by
 have hcv:=str_now hx c
 have hsz:(strOfNums xs).size≤9223372036854775807:=by rw[strOfNums_size,hx.1];exact hn
 have hval:Calls Tryd.prog 88 #[.string (strOfNums xs)] w fun e w'=>e=.returned (.bool (utfB xs))∧Below w.heap.size w w':=Any.utf8_ValidString Tryd.lays196 (strOfNums xs) w hsz hT
 obtain⟨s,hs⟩:=nm_ (strOfNums xs)
 rw[hs] at hcv hval
 obtain⟨b,hb⟩:=nm_ (utfB xs)
 rw[hb] at hval⊢
 have HV:=hd_ hval
 clear hs hb hval
 go_enter Tryd.func81,Tryd.ntmps81
 go_wp2_with fail
 refine HV.out.mono ?_
 rintro e w' ⟨rfl,hb⟩
 go_wp2
 go_ret
 exact⟨rfl,hb⟩
end Go.Proofs.YtconbejjagcnkaaDoor.txc
namespace Go.Proofs.YtconbejjagcnkaaDoor.txm
open Go.RowKit tlvc
end Go.Proofs.YtconbejjagcnkaaDoor.txm
namespace Go.Proofs.YtconbejjagcnkaaDoor.txc
open Go.RowKit txm tlvc
def PB (c:Int):Prop:=(65≤c∧c≤90)∨(97≤c∧c≤122)∨(48≤c∧c≤57)∨c=32
instance (c:Int):Decidable (PB c):=by unfold PB;infer_instance
def rightD (t:Int)(xs:List Int):Bool:=if t=12 then utfB xs else rightB t xs
theorem right_all (t:Int)(A:Option Addr)(n c:Nat)(xs:List Int)(w:World)(hx:Bys w A n xs)(hn:n≤maxLen)(hT:Tabs w):
 Calls Tryd.prog 81 #[.int .u8 t,.slice A n c] w fun e w'=>e=.returned (.bool (rightD t xs))∧Below w.heap.size w w':=by
 unfold rightD
 by_cases h12:t=12
 ·subst h12;rw[if_pos rfl];exact right_utf A n c xs w hx hn hT
 ·rw[if_neg h12];exact right_any t A n c xs w h12 hx hn
end Go.Proofs.YtconbejjagcnkaaDoor.txc
