/- The program's Right. A world in which the library's two tabl -/
import Derived.Test.YtkjkhoglkpepiaaGreatDoorXa
import Derived.Test.YtkjkhoglkpepiaaGreatDoorXb
import Derived.Test.YtkjkhoglkpepiaaGreatDoorRows
import Derived.ProofKit
import Derived.Deep.DeepHandedRow
import Derived.Lib.LaidTab
import Derived.Test.YtkjkhoglkpepiaaGreatDoorKb
import Derived.Test.YtkjkhoglkpepiaaGreatDoorShelf
import Derived.Shelf.Unicode.ValidAny
import Derived.Lib.LaidU8T
import Derived.MakeChecks
import Derived.Lib.ValidLaws
import Derived.Lib.DecodeN
set_option maxRecDepth 100000
set_option maxHeartbeats 4000000
set_option linter.unusedVariables false
set_option linter.unusedSimpArgs false
namespace Go.Proofs.YtkjkhoglkpepiaaGreatDoor.txc
open Go.RowKit txm tlvc
theorem all19 (s:ByteArray)(w:World)(hs:s.size≤9223372036854775807):
 Calls Tryz.prog 208 #[.string s,.func (.func 209) #[] #[]] w fun e w'=>e=.returned (.bool ((runes s).all (okR 19)))∧Below w.heap.size w w':=
 all_any (okR 19) 209 s w hs (enters_of Tryz.func209 (by kernel_rfl) rfl) fun r w=>print_any r w
theorem all22 (s:ByteArray)(w:World)(hs:s.size≤9223372036854775807):
 Calls Tryz.prog 208 #[.string s,.func (.func 210) #[] #[]] w fun e w'=>e=.returned (.bool ((runes s).all (okR 22)))∧Below w.heap.size w w':=
 all_any (okR 22) 210 s w hs (enters_of Tryz.func210 (by kernel_rfl) rfl) fun r w=>lit22_any r w
theorem all27 (s:ByteArray)(w:World)(hs:s.size≤9223372036854775807):
 Calls Tryz.prog 208 #[.string s,.func (.func 211) #[] #[]] w fun e w'=>e=.returned (.bool ((runes s).all (okR 27)))∧Below w.heap.size w w':=
 all_any (okR 27) 211 s w hs (enters_of Tryz.func211 (by kernel_rfl) rfl) fun r w=>lit27_any r w
def rightB (t:Int)(xs:List Int):Bool:=if t=19∨t=22∨t=27 then (runes (strOfNums xs)).all (okR t) else false
theorem right_any (t:Int)(A:Option Addr)(n c:Nat)(xs:List Int)(w:World)(ht:t≠12)(hx:Bys w A n xs)(hn:n≤maxLen):
 Calls Tryz.prog 191 #[.int .u8 t,.slice A n c] w fun e w'=>e=.returned (.bool (rightB t xs))∧Below w.heap.size w w':=by
 have hcv:=str_now hx c
 have hsz:(strOfNums xs).size≤9223372036854775807:=by rw[strOfNums_size,hx.1];exact hn
 obtain⟨s,hs⟩:=nm_ (strOfNums xs)
 unfold rightB
 rw[hs] at hcv hsz⊢
 clear hs
 have h12:(t==12)=false:=by simpa using ht
 by_cases h19:t=19
 ·subst h19
  rw[if_pos (.inl rfl)]
  go_enter Tryz.func191,Tryz.ntmps191
  go_wp2_with fail
  refine(all19 _ _ hsz).mono ?_
  rintro e w' ⟨rfl,hb⟩
  go_wp2
  go_ret
  exact⟨rfl,hb⟩
 ·have h19b:(t==19)=false:=by simpa using h19
  by_cases h22:t=22
  ·subst h22
   rw[if_pos (.inr (.inl rfl))]
   go_enter Tryz.func191,Tryz.ntmps191
   go_wp2_with fail
   refine(all22 _ _ hsz).mono ?_
   rintro e w' ⟨rfl,hb⟩
   go_wp2
   go_ret
   exact⟨rfl,hb⟩
  ·have h22b:(t==22)=false:=by simpa using h22
   by_cases h27:t=27
   ·subst h27
    rw[if_pos (.inr (.inr rfl))]
    go_enter Tryz.func191,Tryz.ntmps191
    go_wp2_with fail
    refine(all27 _ _ hsz).mono ?_
    rintro e w' ⟨rfl,hb⟩
    go_wp2
    go_ret
    exact⟨rfl,hb⟩
   ·have h27b:(t==27)=false:=by simpa using h27
    rw[if_neg (by rintro(h |h |h)<;>contradiction)]
    clear h19 h22 h27 ht
    go_enter Tryz.func191,Tryz.ntmps191
    go_wp2
    go_ret
    exact⟨rfl,br_ _ _⟩
end Go.Proofs.YtkjkhoglkpepiaaGreatDoor.txc
namespace Go.Proofs.YtkjkhoglkpepiaaGreatDoor.txc
open Go.ChangeShapes Go.WideShapes Go.ChangeAt Go.RowKit
def firstCells:Array Value:=((Go.Pinned.utf8FirstZ).map (fun(n:Nat)=>Value.int .u8 (Int.ofNat n))).toArray
def acceptCells:Array Value:=#[.int .u8 128,.int .u8 191,.int .u8 160,.int .u8 191,.int .u8 128,.int .u8 159,.int .u8 144,.int .u8 191,.int .u8 128,.int .u8 143,.int .u8 0,.int .u8 0,.int .u8 0,.int .u8 0,.int .u8 0,.int .u8 0,.int .u8 0,.int .u8 0,.int .u8 0,.int .u8 0,.int .u8 0,.int .u8 0,.int .u8 0,.int .u8 0,.int .u8 0,.int .u8 0,.int .u8 0,.int .u8 0,.int .u8 0,.int .u8 0,.int .u8 0,.int .u8 0]
def putFirst:Obj→Obj
 | .cells _ t frozen=>.cells firstCells t frozen
 |o=>o
def putAccept:Obj→Obj
 | .cells _ t frozen=>.cells acceptCells t frozen
 |o=>o
noncomputable def laidWorld (os:Os):World:=
 {World.holding Tryz.prog os ⟨#[],#[],[]⟩ with heap:=((World.holding Tryz.prog os ⟨#[],#[],[]⟩).heap.modify 0 putFirst).modify 1 putAccept}
def theLaid:List (String × DataW Unit):=[("unicode/utf8.acceptRanges",Rows.laid_unicode_utf8_acceptRanges),("unicode/utf8.first",Rows.laid_unicode_utf8_first)]
theorem laid_met (os:Os)(args:Array Value):laidMet Tryz.prog theLaid ((laidWorld os).forCall (fun _ _=>0) ⟨#[],args,[]⟩).memory:=
 laidMet_of_run' 8 (by kernel_rfl) (by kernel_rfl)
end Go.Proofs.YtkjkhoglkpepiaaGreatDoor.txc
namespace Go.Proofs.YtkjkhoglkpepiaaGreatDoor.txc
open Go.ChangeShapes Go.WideShapes Go.ChangeAt Go.RowKit
def Tabs (w:World):Prop:=Lib.Utf8Tabs 0 1 w
theorem first_eq:Rows.laid_unicode_utf8_first=Lib.firstData:=by kernel_rfl
theorem accept_eq:(Rows.laid_unicode_utf8_acceptRanges:DataW Unit)=Lib.acceptData:=by kernel_rfl
theorem u8extra:U8Extra Tryz.prog Tryz.lays196_ren:=⟨by kernel_rfl,by kernel_rfl,by kernel_rfl,by kernel_rfl,by kernel_rfl,by kernel_rfl,by kernel_rfl⟩
theorem tabs_of {W:World}(h:laidMetH Tryz.prog theLaid W):Tabs W:=by
 rw[Go.MakeChecks.laidMetH_plain _ _ _ (by kernel_rfl)] at h
 have h1:=Lib.laidMet.reads h (.head _)
 have h2:=Lib.laidMet.reads h (.tail _ (.head _))
 rw[accept_eq] at h1
 rw[first_eq] at h2
 exact utf8Tabs_of_readsT (U8Types.of196 Tryz.lays196) u8extra h2 h1
end Go.Proofs.YtkjkhoglkpepiaaGreatDoor.txc
namespace Go.Proofs.YtkjkhoglkpepiaaGreatDoor.txm
open tlvc
theorem okR19 (r:Int):okR 19 r=decide (PrintR r):=rfl
theorem okR22 (r:Int):okR 22 r=decide (AsciiR r):=rfl
theorem okR27 (r:Int):okR 27 r=decide (GenR r):=rfl
theorem all_mono {p q:Int→Bool}{l:List Int}(h: ∀r,p r=true→q r=true)(ha:l.all p=true):l.all q=true:=by
 rw[List.all_eq_true] at ha⊢
 exact fun x hx=>h x (ha x hx)
theorem runesF_low (s:ByteArray): ∀(n p:Nat),s.size≤p+n→(runesF s n p).all (okR 22)=true→∀j,p≤j→(hj:j<s.size)→(s[j]'hj).toNat<128
 |0,p,h,_,j,h1,h2=>by omega
 |n+1,p,h,ha,j,h1,h2=>by
  have hp:p<s.size:=by omega
  simp only[runesF,hp,if_true,List.all_cons,Bool.and_eq_true] at ha
  have hlow:(s[p]'hp).toNat<128:=by
   rcases Nat.lt_or_ge (s[p]'hp).toNat 128 with hl |hg
   ·exact hl
   ·have:=(decode_high s p hp hg).1
    have h3:=ha.1
    rw[okR22] at h3
    have h4:=of_decide_eq_true h3
    unfold AsciiR at h4
    omega
  have hd:=decode_ascii s p hp hlow
  rw[hd] at ha
  by_cases e:j=p
  ·subst e;exact hlow
  ·exact runesF_low s n (p+1) (by omega) ha.2 j (by omega) h2
end Go.Proofs.YtkjkhoglkpepiaaGreatDoor.txm
namespace Go.Proofs.YtkjkhoglkpepiaaGreatDoor.txc
open Go.RowKit txm tlvc
theorem Tabs.below {w w':World}(h:Tabs w)(hb:Below w.heap.size w w'):Tabs w':=Utf8Tabs_below h hb
def utfB (xs:List Int):Bool:=Lib.validD (strOfNums xs).data.toList
theorem right_utf (A:Option Addr)(n c:Nat)(xs:List Int)(w:World)(hx:Bys w A n xs)(hn:n≤maxLen)(hT:Tabs w):
 Calls Tryz.prog 191 #[.int .u8 12,.slice A n c] w fun e w'=>e=.returned (.bool (utfB xs))∧Below w.heap.size w w':=by
 have hcv:=str_now hx c
 have hsz:(strOfNums xs).size≤9223372036854775807:=by rw[strOfNums_size,hx.1];exact hn
 have hval:Calls Tryz.prog 67 #[.string (strOfNums xs)] w fun e w'=>e=.returned (.bool (utfB xs))∧Below w.heap.size w w':=Any.utf8_ValidString Tryz.lays196 (strOfNums xs) w hsz hT
 obtain⟨s,hs⟩:=nm_ (strOfNums xs)
 rw[hs] at hcv hval
 obtain⟨b,hb⟩:=nm_ (utfB xs)
 rw[hb] at hval⊢
 have HV:=hd_ hval
 clear hs hb hval
 go_enter Tryz.func191,Tryz.ntmps191
 go_wp2_with fail
 refine HV.out.mono ?_
 rintro e w' ⟨rfl,hb⟩
 go_wp2
 go_ret
 exact⟨rfl,hb⟩
end Go.Proofs.YtkjkhoglkpepiaaGreatDoor.txc
namespace Go.Proofs.YtkjkhoglkpepiaaGreatDoor.txm
open Go.RowKit tlvc
theorem runesF_asc (s:ByteArray)(h: ∀j (hj:j<s.size),(s[j]'hj).toNat<128): ∀(n p:Nat),s.size≤p+n→runesF s n p=(s.data.toList.drop p).map fun b=>(b.toNat:Int)
 |0,p,hp=>by
  have hz:s.data.toList.length=s.size:=Array.length_toList
  rw[List.drop_eq_nil_of_le (by omega)];rfl
 |n+1,p,hp=>by
  have hz:s.data.toList.length=s.size:=Array.length_toList
  by_cases hlt:p<s.size
  ·have hl:=h p hlt
   simp only[runesF,hlt,if_true]
   rw[decode_ascii s p hlt hl,runesF_asc s h n (p+1) (by omega),List.drop_eq_getElem_cons (by omega:p<s.data.toList.length),List.map_cons]
   congr 1
  ·simp only[runesF,hlt,if_false]
   rw[List.drop_eq_nil_of_le (by omega)];rfl
theorem okR_low {t r:Int}(ht:t=19∨t=22∨t=27)(h:okR t r=true):okR 22 r=true:=by
 rw[okR22]
 refine decide_eq_true ?_
 unfold AsciiR
 rcases ht with rfl |rfl |rfl
 ·rw[okR19] at h;have:=of_decide_eq_true h;unfold PrintR at this;omega
 ·rw[okR22] at h;exact of_decide_eq_true h
 ·rw[okR27] at h;have:=of_decide_eq_true h;unfold GenR at this;omega
end Go.Proofs.YtkjkhoglkpepiaaGreatDoor.txm
namespace Go.Proofs.YtkjkhoglkpepiaaGreatDoor.txc
open Go.RowKit txm tlvc
theorem rightB_bytes {t:Int}{xs:List Int}(ht:t=19∨t=22∨t=27)(hx:Fit xs):rightB t xs=xs.all (okR t):=by
 unfold rightB
 rw[if_pos ht]
 have hback:(strOfNums xs).data.toList.map (fun b=>(b.toNat:Int))=xs:=by
  rw[strOfNums_data,List.map_map]
  conv=>rhs;rw[←List.map_id xs]
  refine List.map_congr_left fun x hx'=>?_
  have:=hx x hx'
  simp only[Function.comp,UInt8.toNat_ofNat',id]
  omega
 by_cases h: ∀j (hj:j< (strOfNums xs).size),((strOfNums xs)[j]'hj).toNat<128
 ·have e:runes (strOfNums xs)=xs:=by
   unfold runes
   rw[runesF_asc _ h _ _ (by omega),List.drop_zero,hback]
  rw[e]
 ·have e1:(runes (strOfNums xs)).all (okR t)=false:=by
   cases hb:(runes (strOfNums xs)).all (okR t) with
   |false=>rfl
   |true=>exact absurd (fun j hj=>runesF_low _ _ 0 (by omega) (all_mono (fun r hr=>okR_low ht hr) hb) j (Nat.zero_le _) hj) h
  have e2:xs.all (okR t)=false:=by
   cases hb:xs.all (okR t) with
   |false=>rfl
   |true=>
    refine absurd (fun j hj=>?_) h
    have h22:=all_mono (fun r hr=>okR_low ht hr) hb
    rw[List.all_eq_true] at h22
    have hj':j<xs.length:=by rw[strOfNums_size] at hj;exact hj
    have h3:=h22 _ (List.getElem_mem hj')
    rw[okR22] at h3
    have h4:=of_decide_eq_true h3
    unfold AsciiR at h4
    have h5:=hx _ (List.getElem_mem hj')
    have h6:(strOfNums xs)[j]'hj=UInt8.ofNat (xs[j]'hj').toNat:=by
     show(strOfNums xs).data[j]'hj=_
     rw[←Array.getElem_toList]
     simp only[strOfNums_data,List.getElem_map]
    rw[h6,UInt8.toNat_ofNat']
    omega
  rw[e1,e2]
def PB (c:Int):Prop:=(65≤c∧c≤90)∨(97≤c∧c≤122)∨(48≤c∧c≤57)∨c=32
instance (c:Int):Decidable (PB c):=by unfold PB;infer_instance
def codes:List Int:=[39,40,41,43,44,45,46,47,58,61,63]
theorem refPrint_any (c:Int)(w:World)(hc:0≤c∧c≤255):
 Calls Tryz.prog 196 #[.int .u8 c] w fun e w'=>e=.returned (.bool (decide (PrintR c)))∧w=w':=by
 obtain⟨k,hk⟩:=nm_ (decide (PrintR c))
 rw[hk]
 have HK:=hd_ hk
 clear hk
 go_enter Tryz.func196,Tryz.ntmps196
 go_upto_region 1 with fail
 go_cut [30] from 5 to 30 (fun b wx=>b=.bool (decide (PB c))∧w=wx)
 case first=>
  go_wp2_with fail
  all_goals go_meet
  all_goals refine⟨congrArg Value.bool ?_,rfl⟩
  all_goals first |exact(decide_eq_true (by simp_all [PB])).symm | (rw[Bool.eq_iff_iff];simp only[Bool.or_eq_true,beq_iff_eq,decide_eq_true_eq];unfold PB;omega)
 case rest=>
  obtain⟨rfl,rfl⟩:=hcut
  by_cases hp:PB c
  ·have hkt:k=true:=by rw[←HK.out];exact decide_eq_true (by unfold PB at hp;unfold PrintR;omega)
   rw[decide_eq_true hp]
   clear HK hp
   subst hkt
   go_wp2
   go_ret
   exact⟨rfl,rfl⟩
  ·rw[decide_eq_false hp]
   have HP:=hd_ hp
   clear hp
   go_wp2_with fail
   go_loopg [4] 12 (fun gk s4 wx=>∃i:Nat,s4=.int .i64 i∧i+gk=12∧i≤11∧w=wx∧Hid (∀j,j<i→codes.getD j 0≠c))
   case atStart=>exact⟨0,rfl,rfl,by omega,rfl,hd_ (fun j hj=>by omega)⟩
   case round=>
    obtain⟨i,rfl,hig,hi,rfl,hq⟩:=hrel
    have hcs:i=0∨i=1∨i=2∨i=3∨i=4∨i=5∨i=6∨i=7∨i=8∨i=9∨i=10∨i=11:=by omega
    rcases hcs with rfl |rfl |rfl |rfl |rfl |rfl |rfl |rfl |rfl |rfl |rfl |rfl
    ·obtain rfl:gk=12:=by omega
     have hl:(((⟨#[39,40,41,43,44,45,46,47,58,61,63]⟩:ByteArray)[0]'(by decide)).toNat:Int)=39:=rfl
     by_cases h:c=39
     ·subst h
      have hkt:k=true:=by rw[←HK.out];exact decide_eq_true (by unfold PrintR;omega)
      subst hkt
      clear HK HP hq hig hi
      go_wp2
      go_ret
      exact⟨rfl,rfl⟩
     ·have hb:((39:Int)==c)=false:=by simp;omega
      have hb2:(c==39)=false:=by simp;omega
      have hq2:Hid (∀j,j<1→codes.getD j 0≠c):=fun j hj=>by
       by_cases e:j=0
       ·subst e;exact fun e2=>h e2.symm
       ·exact hq.out j (by omega)
      clear hq hig hi
      go_wp2
      go_roundg 11
      case measure=>omega
      case rel=>exact⟨1,by go_num,by omega,by omega,rfl,hq2⟩
    ·obtain rfl:gk=11:=by omega
     have hl:(((⟨#[39,40,41,43,44,45,46,47,58,61,63]⟩:ByteArray)[1]'(by decide)).toNat:Int)=40:=rfl
     by_cases h:c=40
     ·subst h
      have hkt:k=true:=by rw[←HK.out];exact decide_eq_true (by unfold PrintR;omega)
      subst hkt
      clear HK HP hq hig hi
      go_wp2
      go_ret
      exact⟨rfl,rfl⟩
     ·have hb:((40:Int)==c)=false:=by simp;omega
      have hb2:(c==40)=false:=by simp;omega
      have hq2:Hid (∀j,j<2→codes.getD j 0≠c):=fun j hj=>by
       by_cases e:j=1
       ·subst e;exact fun e2=>h e2.symm
       ·exact hq.out j (by omega)
      clear hq hig hi
      go_wp2
      go_roundg 10
      case measure=>omega
      case rel=>exact⟨2,by go_num,by omega,by omega,rfl,hq2⟩
    ·obtain rfl:gk=10:=by omega
     have hl:(((⟨#[39,40,41,43,44,45,46,47,58,61,63]⟩:ByteArray)[2]'(by decide)).toNat:Int)=41:=rfl
     by_cases h:c=41
     ·subst h
      have hkt:k=true:=by rw[←HK.out];exact decide_eq_true (by unfold PrintR;omega)
      subst hkt
      clear HK HP hq hig hi
      go_wp2
      go_ret
      exact⟨rfl,rfl⟩
     ·have hb:((41:Int)==c)=false:=by simp;omega
      have hb2:(c==41)=false:=by simp;omega
      have hq2:Hid (∀j,j<3→codes.getD j 0≠c):=fun j hj=>by
       by_cases e:j=2
       ·subst e;exact fun e2=>h e2.symm
       ·exact hq.out j (by omega)
      clear hq hig hi
      go_wp2
      go_roundg 9
      case measure=>omega
      case rel=>exact⟨3,by go_num,by omega,by omega,rfl,hq2⟩
    ·obtain rfl:gk=9:=by omega
     have hl:(((⟨#[39,40,41,43,44,45,46,47,58,61,63]⟩:ByteArray)[3]'(by decide)).toNat:Int)=43:=rfl
     by_cases h:c=43
     ·subst h
      have hkt:k=true:=by rw[←HK.out];exact decide_eq_true (by unfold PrintR;omega)
      subst hkt
      clear HK HP hq hig hi
      go_wp2
      go_ret
      exact⟨rfl,rfl⟩
     ·have hb:((43:Int)==c)=false:=by simp;omega
      have hb2:(c==43)=false:=by simp;omega
      have hq2:Hid (∀j,j<4→codes.getD j 0≠c):=fun j hj=>by
       by_cases e:j=3
       ·subst e;exact fun e2=>h e2.symm
       ·exact hq.out j (by omega)
      clear hq hig hi
      go_wp2
      go_roundg 8
      case measure=>omega
      case rel=>exact⟨4,by go_num,by omega,by omega,rfl,hq2⟩
    ·obtain rfl:gk=8:=by omega
     have hl:(((⟨#[39,40,41,43,44,45,46,47,58,61,63]⟩:ByteArray)[4]'(by decide)).toNat:Int)=44:=rfl
     by_cases h:c=44
     ·subst h
      have hkt:k=true:=by rw[←HK.out];exact decide_eq_true (by unfold PrintR;omega)
      subst hkt
      clear HK HP hq hig hi
      go_wp2
      go_ret
      exact⟨rfl,rfl⟩
     ·have hb:((44:Int)==c)=false:=by simp;omega
      have hb2:(c==44)=false:=by simp;omega
      have hq2:Hid (∀j,j<5→codes.getD j 0≠c):=fun j hj=>by
       by_cases e:j=4
       ·subst e;exact fun e2=>h e2.symm
       ·exact hq.out j (by omega)
      clear hq hig hi
      go_wp2
      go_roundg 7
      case measure=>omega
      case rel=>exact⟨5,by go_num,by omega,by omega,rfl,hq2⟩
    ·obtain rfl:gk=7:=by omega
     have hl:(((⟨#[39,40,41,43,44,45,46,47,58,61,63]⟩:ByteArray)[5]'(by decide)).toNat:Int)=45:=rfl
     by_cases h:c=45
     ·subst h
      have hkt:k=true:=by rw[←HK.out];exact decide_eq_true (by unfold PrintR;omega)
      subst hkt
      clear HK HP hq hig hi
      go_wp2
      go_ret
      exact⟨rfl,rfl⟩
     ·have hb:((45:Int)==c)=false:=by simp;omega
      have hb2:(c==45)=false:=by simp;omega
      have hq2:Hid (∀j,j<6→codes.getD j 0≠c):=fun j hj=>by
       by_cases e:j=5
       ·subst e;exact fun e2=>h e2.symm
       ·exact hq.out j (by omega)
      clear hq hig hi
      go_wp2
      go_roundg 6
      case measure=>omega
      case rel=>exact⟨6,by go_num,by omega,by omega,rfl,hq2⟩
    ·obtain rfl:gk=6:=by omega
     have hl:(((⟨#[39,40,41,43,44,45,46,47,58,61,63]⟩:ByteArray)[6]'(by decide)).toNat:Int)=46:=rfl
     by_cases h:c=46
     ·subst h
      have hkt:k=true:=by rw[←HK.out];exact decide_eq_true (by unfold PrintR;omega)
      subst hkt
      clear HK HP hq hig hi
      go_wp2
      go_ret
      exact⟨rfl,rfl⟩
     ·have hb:((46:Int)==c)=false:=by simp;omega
      have hb2:(c==46)=false:=by simp;omega
      have hq2:Hid (∀j,j<7→codes.getD j 0≠c):=fun j hj=>by
       by_cases e:j=6
       ·subst e;exact fun e2=>h e2.symm
       ·exact hq.out j (by omega)
      clear hq hig hi
      go_wp2
      go_roundg 5
      case measure=>omega
      case rel=>exact⟨7,by go_num,by omega,by omega,rfl,hq2⟩
    ·obtain rfl:gk=5:=by omega
     have hl:(((⟨#[39,40,41,43,44,45,46,47,58,61,63]⟩:ByteArray)[7]'(by decide)).toNat:Int)=47:=rfl
     by_cases h:c=47
     ·subst h
      have hkt:k=true:=by rw[←HK.out];exact decide_eq_true (by unfold PrintR;omega)
      subst hkt
      clear HK HP hq hig hi
      go_wp2
      go_ret
      exact⟨rfl,rfl⟩
     ·have hb:((47:Int)==c)=false:=by simp;omega
      have hb2:(c==47)=false:=by simp;omega
      have hq2:Hid (∀j,j<8→codes.getD j 0≠c):=fun j hj=>by
       by_cases e:j=7
       ·subst e;exact fun e2=>h e2.symm
       ·exact hq.out j (by omega)
      clear hq hig hi
      go_wp2
      go_roundg 4
      case measure=>omega
      case rel=>exact⟨8,by go_num,by omega,by omega,rfl,hq2⟩
    ·obtain rfl:gk=4:=by omega
     have hl:(((⟨#[39,40,41,43,44,45,46,47,58,61,63]⟩:ByteArray)[8]'(by decide)).toNat:Int)=58:=rfl
     by_cases h:c=58
     ·subst h
      have hkt:k=true:=by rw[←HK.out];exact decide_eq_true (by unfold PrintR;omega)
      subst hkt
      clear HK HP hq hig hi
      go_wp2
      go_ret
      exact⟨rfl,rfl⟩
     ·have hb:((58:Int)==c)=false:=by simp;omega
      have hb2:(c==58)=false:=by simp;omega
      have hq2:Hid (∀j,j<9→codes.getD j 0≠c):=fun j hj=>by
       by_cases e:j=8
       ·subst e;exact fun e2=>h e2.symm
       ·exact hq.out j (by omega)
      clear hq hig hi
      go_wp2
      go_roundg 3
      case measure=>omega
      case rel=>exact⟨9,by go_num,by omega,by omega,rfl,hq2⟩
    ·obtain rfl:gk=3:=by omega
     have hl:(((⟨#[39,40,41,43,44,45,46,47,58,61,63]⟩:ByteArray)[9]'(by decide)).toNat:Int)=61:=rfl
     by_cases h:c=61
     ·subst h
      have hkt:k=true:=by rw[←HK.out];exact decide_eq_true (by unfold PrintR;omega)
      subst hkt
      clear HK HP hq hig hi
      go_wp2
      go_ret
      exact⟨rfl,rfl⟩
     ·have hb:((61:Int)==c)=false:=by simp;omega
      have hb2:(c==61)=false:=by simp;omega
      have hq2:Hid (∀j,j<10→codes.getD j 0≠c):=fun j hj=>by
       by_cases e:j=9
       ·subst e;exact fun e2=>h e2.symm
       ·exact hq.out j (by omega)
      clear hq hig hi
      go_wp2
      go_roundg 2
      case measure=>omega
      case rel=>exact⟨10,by go_num,by omega,by omega,rfl,hq2⟩
    ·obtain rfl:gk=2:=by omega
     have hl:(((⟨#[39,40,41,43,44,45,46,47,58,61,63]⟩:ByteArray)[10]'(by decide)).toNat:Int)=63:=rfl
     by_cases h:c=63
     ·subst h
      have hkt:k=true:=by rw[←HK.out];exact decide_eq_true (by unfold PrintR;omega)
      subst hkt
      clear HK HP hq hig hi
      go_wp2
      go_ret
      exact⟨rfl,rfl⟩
     ·have hb:((63:Int)==c)=false:=by simp;omega
      have hb2:(c==63)=false:=by simp;omega
      have hq2:Hid (∀j,j<11→codes.getD j 0≠c):=fun j hj=>by
       by_cases e:j=10
       ·subst e;exact fun e2=>h e2.symm
       ·exact hq.out j (by omega)
      clear hq hig hi
      go_wp2
      go_roundg 1
      case measure=>omega
      case rel=>exact⟨11,by go_num,by omega,by omega,rfl,hq2⟩
    ·have hkf:k=false:=by
      rw[←HK.out]
      refine decide_eq_false ?_
      have q:=hq.out
      have hp:=HP.out
      have q0:=q 0 (by omega);have q1:=q 1 (by omega);have q2:=q 2 (by omega);have q3:=q 3 (by omega);have q4:=q 4 (by omega);have q5:=q 5 (by omega);have q6:=q 6 (by omega);have q7:=q 7 (by omega);have q8:=q 8 (by omega);have q9:=q 9 (by omega);have q10:=q 10 (by omega)
      simp only[codes,List.getD_cons_zero,List.getD_cons_succ,ne_eq] at q0 q1 q2 q3 q4 q5 q6 q7 q8 q9 q10
      unfold PB at hp
      unfold PrintR
      omega
     subst hkf
     clear HK HP hq hig hi
     go_wp2
     go_ret
     exact⟨rfl,rfl⟩
theorem all_upto {p:Int→Bool}{xs:List Int}{k:Nat}(hk:k<xs.length)(h:(xs.drop k).all p=xs.all p):(p (xs.getD k 0)=false→xs.all p=false)∧(p (xs.getD k 0)=true→(xs.drop (k+1)).all p=xs.all p):=by
 have e:xs.drop k=xs.getD k 0::xs.drop (k+1):=by
  rw[List.drop_eq_getElem_cons hk,List.getD_eq_getElem?_getD,List.getElem?_eq_getElem hk];rfl
 rw[e,List.all_cons] at h
 refine⟨fun hf=>?_,fun ht=>?_⟩
 ·rw[←h,hf];rfl
 ·rw[←h,ht];rfl
def rightD (t:Int)(xs:List Int):Bool:=if t=12 then utfB xs else rightB t xs
theorem refRight_low (t:Int)(ht:t=19∨t=22∨t=27)(A:Option Addr)(n c:Nat)(xs:List Int)(w:World)(hx:Bys w A n xs)(hn:n≤maxLen):
 Calls Tryz.prog 155 #[.int .u8 t,.slice A n c] w fun e w'=>e=.returned (.bool (rightB t xs))∧w=w':=by
 rw[rightB_bytes ht hx.2.1]
 obtain⟨ANS,hANS⟩:=nm_ (xs.all (okR t))
 rw[hANS]
 have hn:n≤9223372036854775807:=by unfold maxLen at hn;omega
 have HA:=hd_ hANS
 clear hANS
 rcases ht with rfl |rfl |rfl
 ·go_enter Tryz.func155,Tryz.ntmps155
  go_wp2_with fail
  go_loopg [5] (n+1) (fun gk s5 wx=>∃i:Nat,s5=.int .i64 i∧i≤n∧n - i<gk∧w=wx∧Hid ((xs.drop i).all (okR 19)=xs.all (okR 19)))
  case atStart=>exact⟨0,rfl,by omega,by omega,rfl,hd_ rfl⟩
  case round=>
   obtain⟨i,rfl,hi,hgk,rfl,hq⟩:=hrel
   by_cases hlt:i<n
   ·obtain⟨g',rfl⟩: ∃g',gk=g'+1:=⟨gk - 1,by omega⟩
    obtain⟨b,off,rfl,hb,hcell⟩:=hx.2.2 (by omega)
    have hltz:(i:Int)< (n:Int):=by omega
    have hc:=hcell i hlt
    obtain⟨q1,q2⟩:=all_upto (by rw[hx.1];exact hlt) hq.out
    have hbd:=hx.2.1.getD i
    obtain⟨x,hxi⟩:=nm_ (xs.getD i 0)
    rw[hxi] at hc hbd q1 q2
    have Q1:=hd_ q1
    have Q2:=hd_ q2
    clear q1 q2 hcell hxi
    obtain⟨d,hd⟩:=nm_ (decide (PrintR x))
    have hpc:=refPrint_any x w hbd
    rw[hd] at hpc
    have HPC:=hd_ hpc
    have HD:=hd_ hd
    clear hpc hd
    go_wp2_with fail
    refine HPC.out.mono ?_
    rintro e w' ⟨rfl,rfl⟩
    cases d with
    |false=>
     have hANS:ANS=false:=by rw[←HA.out];exact Q1.out (by rw[okR19];exact HD.out)
     subst hANS
     clear HA hq Q1 Q2 HPC HD
     go_wp2
     go_ret
     exact⟨rfl,rfl⟩
    |true=>
     have hok:=Q2.out (by rw[okR19];exact HD.out)
     have HOK:=hd_ hok
     clear hok Q1 Q2 hq HPC HD
     go_wp2
     go_roundg g'
     case measure=>omega
     case rel=>exact⟨i+1,by go_num,by omega,by omega,rfl,HOK⟩
   ·have hltz: ¬(i:Int)< (n:Int):=by omega
    have hANS:ANS=true:=by
     rw[←HA.out,←hq.out,List.drop_eq_nil_of_le (by rw[hx.1];omega)];rfl
    subst hANS
    clear HA hq
    go_wp2
    go_ret
    exact⟨rfl,rfl⟩
 ·go_enter Tryz.func155,Tryz.ntmps155
  go_wp2_with fail
  go_loopg [5] (n+1) (fun gk s5 wx=>∃i:Nat,s5=.int .i64 i∧i≤n∧n - i<gk∧w=wx∧Hid ((xs.drop i).all (okR 22)=xs.all (okR 22)))
  case atStart=>exact⟨0,rfl,by omega,by omega,rfl,hd_ rfl⟩
  case round=>
   obtain⟨i,rfl,hi,hgk,rfl,hq⟩:=hrel
   by_cases hlt:i<n
   ·obtain⟨g',rfl⟩: ∃g',gk=g'+1:=⟨gk - 1,by omega⟩
    obtain⟨b,off,rfl,hb,hcell⟩:=hx.2.2 (by omega)
    have hltz:(i:Int)< (n:Int):=by omega
    have hc:=hcell i hlt
    obtain⟨q1,q2⟩:=all_upto (by rw[hx.1];exact hlt) hq.out
    have hbd:=hx.2.1.getD i
    obtain⟨x,hxi⟩:=nm_ (xs.getD i 0)
    rw[hxi] at hc hbd q1 q2
    have Q1:=hd_ q1
    have Q2:=hd_ q2
    clear q1 q2 hcell hxi
    by_cases h:x<128
    ·have hz: ¬(128:Int)≤x:=by omega
     have hok:=Q2.out (by rw[okR22];exact decide_eq_true (by unfold AsciiR;omega))
     have HOK:=hd_ hok
     clear hok Q1 Q2 hq
     go_wp2
     go_roundg g'
     case measure=>omega
     case rel=>exact⟨i+1,by go_num,by omega,by omega,rfl,HOK⟩
    ·have hz:(128:Int)≤x:=by omega
     have hANS:ANS=false:=by rw[←HA.out];exact Q1.out (by rw[okR22];exact decide_eq_false (by unfold AsciiR;omega))
     subst hANS
     clear HA hq Q1 Q2
     go_wp2
     go_ret
     exact⟨rfl,rfl⟩
   ·have hltz: ¬(i:Int)< (n:Int):=by omega
    have hANS:ANS=true:=by
     rw[←HA.out,←hq.out,List.drop_eq_nil_of_le (by rw[hx.1];omega)];rfl
    subst hANS
    clear HA hq
    go_wp2
    go_ret
    exact⟨rfl,rfl⟩
 ·go_enter Tryz.func155,Tryz.ntmps155
  go_wp2_with fail
  go_loopg [5] (n+1) (fun gk s5 wx=>∃i:Nat,s5=.int .i64 i∧i≤n∧n - i<gk∧w=wx∧Hid ((xs.drop i).all (okR 27)=xs.all (okR 27)))
  case atStart=>exact⟨0,rfl,by omega,by omega,rfl,hd_ rfl⟩
  case round=>
   obtain⟨i,rfl,hi,hgk,rfl,hq⟩:=hrel
   by_cases hlt:i<n
   ·obtain⟨g',rfl⟩: ∃g',gk=g'+1:=⟨gk - 1,by omega⟩
    obtain⟨b,off,rfl,hb,hcell⟩:=hx.2.2 (by omega)
    have hltz:(i:Int)< (n:Int):=by omega
    have hc:=hcell i hlt
    obtain⟨q1,q2⟩:=all_upto (by rw[hx.1];exact hlt) hq.out
    have hbd:=hx.2.1.getD i
    obtain⟨x,hxi⟩:=nm_ (xs.getD i 0)
    rw[hxi] at hc hbd q1 q2
    have Q1:=hd_ q1
    have Q2:=hd_ q2
    clear q1 q2 hcell hxi
    by_cases h:x<32
    ·have hANS:ANS=false:=by rw[←HA.out];exact Q1.out (by rw[okR27];exact decide_eq_false (by unfold GenR;omega))
     subst hANS
     clear HA hq Q1 Q2
     go_wp2
     go_ret
     exact⟨rfl,rfl⟩
    ·by_cases h2:126<x
     ·have hANS:ANS=false:=by rw[←HA.out];exact Q1.out (by rw[okR27];exact decide_eq_false (by unfold GenR;omega))
      subst hANS
      clear HA hq Q1 Q2
      go_wp2
      go_ret
      exact⟨rfl,rfl⟩
     ·have hok:=Q2.out (by rw[okR27];exact decide_eq_true (by unfold GenR;omega))
      have HOK:=hd_ hok
      clear hok Q1 Q2 hq
      go_wp2
      go_roundg g'
      case measure=>omega
      case rel=>exact⟨i+1,by go_num,by omega,by omega,rfl,HOK⟩
   ·have hltz: ¬(i:Int)< (n:Int):=by omega
    have hANS:ANS=true:=by
     rw[←HA.out,←hq.out,List.drop_eq_nil_of_le (by rw[hx.1];omega)];rfl
    subst hANS
    clear HA hq
    go_wp2
    go_ret
    exact⟨rfl,rfl⟩
theorem right_all (t:Int)(A:Option Addr)(n c:Nat)(xs:List Int)(w:World)(hx:Bys w A n xs)(hn:n≤maxLen)(hT:Tabs w):
 Calls Tryz.prog 191 #[.int .u8 t,.slice A n c] w fun e w'=>e=.returned (.bool (rightD t xs))∧Below w.heap.size w w':=by
 unfold rightD
 by_cases h12:t=12
 ·subst h12;rw[if_pos rfl];exact right_utf A n c xs w hx hn hT
 ·rw[if_neg h12];exact right_any t A n c xs w h12 hx hn
end Go.Proofs.YtkjkhoglkpepiaaGreatDoor.txc
