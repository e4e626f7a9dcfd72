/- Which of two rows of bytes stands behind the other: the libr -/
import Derived.Test.YtkjkhoglkpepiaaGreatDoorKa
import Derived.Test.YtkjkhoglkpepiaaGreatDoorProg
import Derived.Lib.BytesEntry
import Derived.Laws.Externs
import Derived.Lib.ValidAsc
import Derived.Lib.Walk
import Derived.RegionTactic
import Derived.Deep.QuietTactic
import GoSem.Extern.BytealgCompare
import Derived.Lib.BitFns
import Derived.Deep.Draws
import Derived.Laws.BitsAllLaws
import Derived.Lib.EndianBits
import Derived.Laws.Entries
set_option maxRecDepth 100000
set_option maxHeartbeats 4000000
set_option linter.unusedVariables false
set_option linter.unusedSimpArgs false
namespace Go.Proofs.YtkjkhoglkpepiaaGreatDoor.ndc
open Go.RowKit tlvc
def gt8:List UInt8→List UInt8→Bool
 | [],_=>false
 |_::_,[]=>true
 |a::x,b::y=>if a=b then gt8 x y else decide (b<a)
theorem gt8_string: ∀l m:List UInt8,(!(Op.bytesLess l m || l==m))=gt8 l m
 | [],[]=>by simp[Op.bytesLess,gt8]
 | [],_::_=>by simp[Op.bytesLess,gt8]
 |_::_,[]=>by simp[Op.bytesLess,gt8]
 |a::x,b::y=>by
  have ih:=gt8_string x y
  unfold gt8 Op.bytesLess
  by_cases h:a=b
  ·subst h
   rw[if_pos rfl,←ih]
   have: ¬a<a:=by simp
   simp[this]
  ·rw[if_neg h]
   have h2:(a==b)=false:=by simpa using h
   have h3:(a::x==b::y)=false:=by simp[h]
   rw[h2,h3]
   have hn: ¬a.toNat=b.toNat:=fun e=>h (UInt8.toNat.inj e)
   simp only[Bool.false_and,Bool.or_false]
   rw[Bool.eq_iff_iff]
   simp[UInt8.lt_iff_toNat_lt]
   omega
theorem gt8_pre: ∀(i:Nat) (l m:List UInt8),i<l.length→i<m.length→(∀j,j<i→l.getD j 0=m.getD j 0)→l.getD i 0≠m.getD i 0→gt8 l m=decide (m.getD i 0<l.getD i 0)
 |_,[],_,h,_,_,_=>by simp at h
 |_,_::_,[],_,h,_,_=>by simp at h
 |0,a::x,b::y,_,_,_,hne=>by
  unfold gt8
  rw[if_neg (by simpa using hne)]
  simp
 |i+1,a::x,b::y,h1,h2,he,hne=>by
  unfold gt8
  have:=he 0 (by omega)
  rw[if_pos (by simpa using this)]
  have ih:=gt8_pre i x y (by simpa using h1) (by simpa using h2) (fun j hj=>by simpa using he (j+1) (by omega)) (by simpa using hne)
  rw[ih];simp
theorem gt8_all: ∀(l m:List UInt8),(∀j,j<min l.length m.length→l.getD j 0=m.getD j 0)→gt8 l m=decide (m.length<l.length)
 | [],m,_=>by unfold gt8;simp
 |_::_,[],_=>by unfold gt8;simp
 |a::x,b::y,h=>by
  unfold gt8
  have h0:=h 0 (by simp)
  rw[if_pos (by simpa using h0)]
  rw[gt8_all x y fun j hj=>by simpa using h (j+1) (by simp at hj⊢;omega)]
  simp
theorem find_range_none {n:Nat}{p:Nat→Bool}(h:(List.range n).find? p=none): ∀j,j<n→p j=false:=fun j hj=>by
 have:=List.find?_eq_none.1 h j (List.mem_range.2 hj)
 simpa using this
theorem find_range_some: ∀{n i:Nat} {p:Nat→Bool},(List.range n).find? p=some i→i<n∧p i=true∧∀j,j<i→p j=false:=fun {n i p} h=>by
 rw[List.find?_range_eq_some] at h
 refine⟨List.mem_range.1 h.2.1,h.1,fun j hj=>by simpa using h.2.2 j hj⟩
theorem get_getD (A:ByteArray)(i:Nat):A[i]! =A.data.toList.getD i 0:=by
 have hz:A.data.toList.length=A.size:=Array.length_toList
 rw[List.getD_eq_getElem?_getD]
 by_cases h:i<A.size
 ·rw[getElem!_pos A i h,List.getElem?_eq_getElem (by omega),Option.getD_some,Array.getElem_toList]
  rfl
 ·rw[getElem!_neg A i h,List.getElem?_eq_none (by omega)]
  rfl
theorem cmp_gt (A B:ByteArray):0<Extern.BytealgCompare.cmp A B↔gt8 A.data.toList B.data.toList=true:=by
 have za:A.data.toList.length=A.size:=Array.length_toList
 have zb:B.data.toList.length=B.size:=Array.length_toList
 unfold Extern.BytealgCompare.cmp
 split
 ·rename_i i h
  obtain⟨h1,h2,h3⟩:=find_range_some h
  have hne:A.data.toList.getD i 0≠B.data.toList.getD i 0:=by rw[←get_getD,←get_getD];simpa using h2
  rw[gt8_pre i _ _ (by omega) (by omega) (fun j hj=>by rw[←get_getD,←get_getD];simpa using h3 j hj) hne,get_getD,get_getD]
  have hn: ¬(A.data.toList.getD i 0).toNat=(B.data.toList.getD i 0).toNat:=fun e=>hne (UInt8.toNat.inj e)
  rw[decide_eq_true_iff]
  split
  ·rename_i hl
   rw[UInt8.lt_iff_toNat_lt] at hl⊢
   omega
  ·rename_i hl
   rw[UInt8.lt_iff_toNat_lt] at hl⊢
   omega
 ·rename_i h
  have h2:=find_range_none h
  rw[gt8_all _ _ fun j hj=>by have:=h2 j (by omega);rw[←get_getD,←get_getD];simpa using this,za,zb,decide_eq_true_iff]
  split
  ·omega
  ·split<;>omega
theorem cmp_bd (A B:ByteArray):Extern.BytealgCompare.cmp A B= -1∨Extern.BytealgCompare.cmp A B=0∨Extern.BytealgCompare.cmp A B=1:=by
 unfold Extern.BytealgCompare.cmp
 split
 ·split<;>simp
 ·split
  ·simp
  ·split<;>simp
theorem run_bytes {P:Program}{w:World}{A:Option Addr}{n:Nat}{xs:List Int}(h:Bys w A n xs)(c:Nat):(Extern.Bytes.bytesOf (.slice A n c)).run P w=.ok (strOfNums xs) w:=by
 rcases A with _ | ⟨b,off,sp⟩
 ·have hn:n=0:=by
   rcases Nat.eq_zero_or_pos n with h0 |h0
   ·exact h0
   ·obtain⟨b,off,e,_⟩:=h.2.2 h0;cases e
  have hx:xs=[]:=List.eq_nil_of_length_eq_zero (by rw[h.1,hn])
  subst hx
  rfl
 ·have hl:=Lib.run_loadBytesX (P:=P) w xs ⟨b,off,sp⟩ .empty (fun j x hj=>by
   have hjl:j<xs.length:=(List.getElem?_eq_some_iff.1 hj).1
   obtain⟨b',off',e,_,hc⟩:=h.2.2 (by rw[←h.1];omega)
   cases e
   rw[Addr.add_lit,hc j (by rw[←h.1];omega),List.getD_eq_getElem?_getD,hj]
   rfl)
  rw[h.1] at hl
  show(Extern.Bytes.loadBytes _ n .empty).run P w=_
  rw[hl]
  congr 1
  apply ByteArray.ext
  show(#[]:Array UInt8)++(Lib.bytesOf xs).toArray=_
  simp[strOfNums,Lib.bytesOf]
theorem run_compare {P:Program}{w:World}{A B:Option Addr}{n m:Nat}{xs ys:List Int}(h:Bys w A n xs)(k:Bys w B m ys)(c d:Nat):
 (Extern.BytealgCompare.compare #[.slice A n c,.slice B m d]).run P w=.ok (.int .i64 (Extern.BytealgCompare.cmp (strOfNums xs) (strOfNums ys))) w:=by
 change Sem.run P (do pure (goInt (Extern.BytealgCompare.cmp (←Extern.Bytes.bytesOf (.slice A n c)) (←Extern.Bytes.bytesOf (.slice B m d))))) w=_
 simp only[Sem.run_bind,Sem.run_pure,run_bytes h c,run_bytes k d,Result.andThen]
 rfl
def behind (xs ys:List Int):Bool:=gt8 (Lib.bytesOf xs) (Lib.bytesOf ys)
theorem compare_any (A B:Option Addr)(n c m d:Nat)(xs ys:List Int)(w:World)(hx:Bys w A n xs)(hy:Bys w B m ys):
 Calls Tryz.prog 193 #[.slice A n c,.slice B m d] w fun e w'=>(∃r:Int,e=.returned (.int .i64 r)∧(-1≤r∧r≤1)∧decide (0<r)=behind xs ys)∧w=w':=by
 have hrun:(callFunc 214 #[.slice A n c,.slice B m d]).run Tryz.prog w=.ok (.value (.int .i64 (Extern.BytealgCompare.cmp (strOfNums xs) (strOfNums ys)))) w:=by
  rw[run_callFunc_extern Tryz.func214 (by kernel_rfl) (by kernel_rfl) (by kernel_rfl) (show Extern.find _=some Extern.BytealgCompare.compare by kernel_rfl),run_compare hx hy]
  rfl
 have hg:=cmp_gt (strOfNums xs) (strOfNums ys)
 have hb:=cmp_bd (strOfNums xs) (strOfNums ys)
 obtain⟨r,hr⟩:=nm_ (Extern.BytealgCompare.cmp (strOfNums xs) (strOfNums ys))
 rw[hr] at hrun hg hb
 have hfin:decide (0<r)=behind xs ys:=by rw[Bool.eq_iff_iff,decide_eq_true_iff,hg];rfl
 have HF:=hd_ hfin
 clear hg hr hfin
 go_enter Tryz.func193,Tryz.ntmps193
 go_wp2
 go_ret
 exact⟨⟨r,rfl,by omega,HF.out⟩,rfl⟩
end Go.Proofs.YtkjkhoglkpepiaaGreatDoor.ndc
namespace Go.Proofs.YtkjkhoglkpepiaaGreatDoor.ndc
open Go.RowKit tlvc
def bitsB (xs:List Int):Bool:=
 if xs.length=1 then decide (xs.getD 0 0=0) else decide (1<xs.length∧xs.getD 0 0<8∧xs.getD (xs.length - 1) 0%2^ (xs.getD 0 0).toNat=0)
theorem bitsB_one {xs:List Int}(h:xs.length=1):bitsB xs=decide (xs.getD 0 0=0):=by unfold bitsB;rw[if_pos h]
theorem bitsB_none {xs:List Int}(h:xs.length=0):bitsB xs=false:=by unfold bitsB;rw[if_neg (by omega)];exact decide_eq_false (by omega)
theorem bitsB_great {xs:List Int}(h:1<xs.length)(h8: ¬xs.getD 0 0<8):bitsB xs=false:=by unfold bitsB;rw[if_neg (by omega)];exact decide_eq_false (by rintro⟨_,h,_⟩;exact h8 h)
theorem bitsB_more {xs:List Int}(h:1<xs.length)(h8:xs.getD 0 0<8):bitsB xs=decide (xs.getD (xs.length - 1) 0%2^ (xs.getD 0 0).toNat=0):=by
 unfold bitsB;rw[if_neg (by omega)];simp only[h,h8,true_and]
theorem and8f: ∀X:Fin 256,bits .and .u8 ((X.val:Nat):Int) 0=0∧bits .and .u8 ((X.val:Nat):Int) 1=((X.val%2:Nat):Int)∧bits .and .u8 ((X.val:Nat):Int) 3=((X.val%4:Nat):Int)∧bits .and .u8 ((X.val:Nat):Int) 127=((X.val%128:Nat):Int):=by decide+kernel
theorem and8g {l:Int}(h:0≤l∧l≤255):bits .and .u8 l 0=0∧bits .and .u8 l 1=l%2∧bits .and .u8 l 3=l%4∧bits .and .u8 l 127=l%128:=by
 obtain⟨k,rfl⟩: ∃k:Nat,l=k:=⟨l.toNat,by omega⟩
 have:=and8f ⟨k,by omega⟩
 simp only at this
 obtain⟨a,b,c,d⟩:=this
 exact⟨a,by rw[b];omega,by rw[c];omega,by rw[d];omega⟩
theorem and8_0 {l:Int}(h:0≤l∧l≤255):bits .and .u8 l 0=0:=(and8g h).1
theorem and8_1 {l:Int}(h:0≤l∧l≤255):bits .and .u8 l 1=l%2:=(and8g h).2.1
theorem and8_3 {l:Int}(h:0≤l∧l≤255):bits .and .u8 l 3=l%4:=(and8g h).2.2.1
theorem and8_127 {l:Int}(h:0≤l∧l≤255):bits .and .u8 l 127=l%128:=(and8g h).2.2.2
theorem ret_b {a b:Bool}(h:a=b):Ending.returned (.bool a)=.returned (.bool b):=by rw[h]
theorem bitsMay_any (A:Option Addr)(n c:Nat)(xs:List Int)(w:World)(hx:Bys w A n xs)(hn:n≤maxLen):
 Calls Tryz.prog 190 #[.slice A n c] w fun e w'=>e=.returned (.bool (bitsB xs))∧∃q,w'=w.drewN q:=by
 have mixed:Tryz.prog.follows Departure.mixedOrders=true:=by kernel_rfl
 have hl:=hx.1
 have hn:n≤9223372036854775807:=by unfold maxLen at hn;omega
 by_cases h0:n=0
 ·subst h0
  rw[bitsB_none hl]
  go_enter Tryz.func190,Tryz.ntmps190
  go_wp2
  go_ret
  exact⟨rfl,0,rfl⟩
 ·obtain⟨b,off,rfl,hb,hcell⟩:=hx.2.2 (by omega)
  have c0:=hcell 0 (by omega)
  have b0:=hx.2.1.getD 0
  have bl:=hx.2.1.getD (n - 1)
  have cl:=hcell (n - 1) (by omega)
  rw[Nat.add_zero] at c0
  by_cases h1:n=1
  ·subst h1
   rw[bitsB_one hl]
   obtain⟨x,hxx⟩:=nm_ (xs.getD 0 0)
   rw[hxx] at c0 b0⊢
   clear hcell cl bl hx hl hxx
   go_enter Tryz.func190,Tryz.ntmps190
   go_wp2
   all_goals go_ret
   all_goals exact⟨ret_b (by first |rfl | (rw[Bool.eq_iff_iff];simp)),0,rfl⟩
  ·obtain⟨m,rfl⟩: ∃m,n=m+1:=⟨n - 1,by omega⟩
   rw[Nat.add_sub_cancel] at cl bl
   have hm:1≤m:=by omega
   obtain⟨u,hu⟩:=nm_ (xs.getD 0 0)
   obtain⟨l,hll⟩:=nm_ (xs.getD m 0)
   have hlm:xs.length - 1=m:=by omega
   have h2: ¬((m:Int)+1<2):=by omega
   have hw:IntKind.i64.wrap ((m:Int)+1 - 1)=m:=by rw[show(m:Int)+1 - 1=m by omega];exact IntWalk.i64_in _ (by omega)
   have i0:(0:Int)< (m:Int)+1:=by omega
   have i1:(m:Int)< (m:Int)+1:=by omega
   have i2:m<m+1:=by omega
   have i3:0<m+1:=by omega
   by_cases h8:u<8
   ·rw[bitsB_more (by omega) (by rw[hu];exact h8),hlm,hu,hll]
    rw[hu] at c0 b0
    rw[hll] at cl bl
    clear hcell hx hl hu hll hlm
    have hcs:u=0∨u=1∨u=2∨u=3∨u=4∨u=5∨u=6∨u=7:=by omega
    obtain⟨k,hk⟩:=nm_ (decide (l%2^u.toNat=0))
    rw[hk]
    rcases hcs with rfl |rfl |rfl |rfl |rfl |rfl |rfl |rfl
    all_goals
     have hk2:=hd_ hk
     clear hk
     go_enter Tryz.func190,Tryz.ntmps190
     go_wp2_with fail
     go_quiet (fail)
     go_wp2
     go_ret
     refine⟨ret_b ?_,_,rfl⟩
     rw[←hk2.out]
     first
      |exact(decide_eq_true (show l%1=0 by omega)).symm
      | (rw[show(2:Int)^Int.toNat 1=2 from rfl,Bool.eq_iff_iff];simp only[beq_iff_eq,decide_eq_true_eq];omega)
      | (rw[show(2:Int)^Int.toNat 2=4 from rfl,Bool.eq_iff_iff];simp only[beq_iff_eq,decide_eq_true_eq];omega)
      | (rw[show(2:Int)^Int.toNat 3=8 from rfl,Bool.eq_iff_iff];simp only[beq_iff_eq,decide_eq_true_eq];omega)
      | (rw[show(2:Int)^Int.toNat 4=16 from rfl,Bool.eq_iff_iff];simp only[beq_iff_eq,decide_eq_true_eq];omega)
      | (rw[show(2:Int)^Int.toNat 5=32 from rfl,Bool.eq_iff_iff];simp only[beq_iff_eq,decide_eq_true_eq];omega)
      | (rw[show(2:Int)^Int.toNat 6=64 from rfl,Bool.eq_iff_iff];simp only[beq_iff_eq,decide_eq_true_eq];omega)
      | (rw[show(2:Int)^Int.toNat 7=128 from rfl,Bool.eq_iff_iff];simp only[beq_iff_eq,decide_eq_true_eq];omega)
   ·have h8b:decide (u<8)=false:=decide_eq_false h8
    rw[bitsB_great (by omega) (by rw[hu];exact h8)]
    rw[hu] at c0 b0
    rw[hll] at cl bl
    clear hcell hx hl hu hll hlm
    go_enter Tryz.func190,Tryz.ntmps190
    go_wp2_with fail
    go_quiet (fail)
    go_wp2
    go_ret
    exact⟨rfl,_,rfl⟩
theorem refBits_any (A:Option Addr)(n c:Nat)(xs:List Int)(w:World)(hx:Bys w A n xs)(hn:n≤maxLen):
 Calls Tryz.prog 156 #[.slice A n c] w fun e w'=>e=.returned (.bool (bitsB xs))∧∃q,w'=w.drewN q:=by
 have mixed:Tryz.prog.follows Departure.mixedOrders=true:=by kernel_rfl
 have hl:=hx.1
 have hn:n≤9223372036854775807:=by unfold maxLen at hn;omega
 by_cases h0:n=0
 ·subst h0
  rw[bitsB_none hl]
  go_enter Tryz.func156,Tryz.ntmps156
  go_wp2_with fail
  go_quiet (fail)
  go_wp2
  go_ret
  exact⟨rfl,_,rfl⟩
 ·obtain⟨b,off,rfl,hb,hcell⟩:=hx.2.2 (by omega)
  have c0:=hcell 0 (by omega)
  have b0:=hx.2.1.getD 0
  have bl:=hx.2.1.getD (n - 1)
  have cl:=hcell (n - 1) (by omega)
  rw[Nat.add_zero] at c0
  by_cases h1:n=1
  ·subst h1
   rw[bitsB_one hl]
   obtain⟨x,hxx⟩:=nm_ (xs.getD 0 0)
   rw[hxx] at c0 b0⊢
   clear hcell cl bl hx hl hxx
   go_enter Tryz.func156,Tryz.ntmps156
   go_wp2
   all_goals go_ret
   all_goals exact⟨ret_b (by first |rfl | (rw[Bool.eq_iff_iff];simp)),0,rfl⟩
  ·obtain⟨m,rfl⟩: ∃m,n=m+1:=⟨n - 1,by omega⟩
   rw[Nat.add_sub_cancel] at cl bl
   have hm:1≤m:=by omega
   obtain⟨u,hu⟩:=nm_ (xs.getD 0 0)
   obtain⟨l,hll⟩:=nm_ (xs.getD m 0)
   have hlm:xs.length - 1=m:=by omega
   have h2: ¬((m:Int)+1=1):=by omega
   have h2b:((m:Int)+1==1)=false:=by simp;omega
   have h3:(1:Int)< (m:Int)+1:=by omega
   have hw:IntKind.i64.wrap ((m:Int)+1 - 1)=m:=by rw[show(m:Int)+1 - 1=m by omega];exact IntWalk.i64_in _ (by omega)
   have i0:(0:Int)< (m:Int)+1:=by omega
   have i1:(m:Int)< (m:Int)+1:=by omega
   have i2:m<m+1:=by omega
   have i3:0<m+1:=by omega
   by_cases h8:u<8
   ·rw[bitsB_more (by omega) (by rw[hu];exact h8),hlm,hu,hll]
    rw[hu] at c0 b0
    rw[hll] at cl bl
    clear hcell hx hl hu hll hlm
    have hcs:u=0∨u=1∨u=2∨u=3∨u=4∨u=5∨u=6∨u=7:=by omega
    obtain⟨k,hk⟩:=nm_ (decide (l%2^u.toNat=0))
    rw[hk]
    rcases hcs with rfl |rfl |rfl |rfl |rfl |rfl |rfl |rfl
    all_goals
     have hk2:=hd_ hk
     clear hk
     go_enter Tryz.func156,Tryz.ntmps156
     go_wp2_with fail
     go_quiet (fail)
     go_wp2
     go_ret
     refine⟨ret_b ?_,_,rfl⟩
     rw[←hk2.out]
     first
      | (rw[and8_0 bl];exact(decide_eq_true (show l%1=0 by omega)).symm)
      | (rw[and8_1 bl,show(2:Int)^Int.toNat 1=2 from rfl,Bool.eq_iff_iff];simp only[beq_iff_eq,decide_eq_true_eq])
      | (rw[and8_3 bl,show(2:Int)^Int.toNat 2=4 from rfl,Bool.eq_iff_iff];simp only[beq_iff_eq,decide_eq_true_eq])
      | (rw[show(2:Int)^Int.toNat 3=8 from rfl,Bool.eq_iff_iff];simp only[beq_iff_eq,decide_eq_true_eq])
      | (rw[show(2:Int)^Int.toNat 4=16 from rfl,Bool.eq_iff_iff];simp only[beq_iff_eq,decide_eq_true_eq])
      | (rw[show(2:Int)^Int.toNat 5=32 from rfl,Bool.eq_iff_iff];simp only[beq_iff_eq,decide_eq_true_eq])
      | (rw[show(2:Int)^Int.toNat 6=64 from rfl,Bool.eq_iff_iff];simp only[beq_iff_eq,decide_eq_true_eq])
      | (rw[and8_127 bl,show(2:Int)^Int.toNat 7=128 from rfl,Bool.eq_iff_iff];simp only[beq_iff_eq,decide_eq_true_eq])
   ·have h8b:decide (u<8)=false:=decide_eq_false h8
    rw[bitsB_great (by omega) (by rw[hu];exact h8)]
    rw[hu] at c0 b0
    rw[hll] at cl bl
    clear hcell hx hl hu hll hlm
    go_enter Tryz.func156,Tryz.ntmps156
    go_wp2_with fail
    go_quiet (fail)
    go_wp2
    go_ret
    exact⟨rfl,_,rfl⟩
end Go.Proofs.YtkjkhoglkpepiaaGreatDoor.ndc
namespace Go.Proofs.YtkjkhoglkpepiaaGreatDoor.ndc
open Go.RowKit tlvc
def RowAt (w:World)(r:Nat)(last:List Int)(f:Bool):Prop:=
 (∃L ln lc,w.cell? ⟨r,0,none⟩=some (.slice L ln lc)∧Bys w L ln last)∧w.cell? ⟨r,1,none⟩=some (.bool f)∧(∀x,w.frozen? ⟨r,x,none⟩=false)∧r<w.heap.size
theorem add_any (r:Nat)(last:List Int)(f:Bool)(A:Option Addr)(n c:Nat)(xs:List Int)(w:World)(hr:RowAt w r last f)(hx:Bys w A n xs):
 Calls Tryz.prog 143 #[.pointer (some ⟨r,0,none⟩),.slice A n c] w fun e w'=>e=.returned (.tuple #[])∧w'=(w.setCell ⟨r,1,none⟩ (.bool (f || behind last xs))).setCell ⟨r,0,none⟩ (.slice A n c):=by
 obtain⟨⟨L,ln,lc,c0,hL⟩,c1,hfz,hrl⟩:=hr
 have f0:=hfz 0
 have f1:=hfz 1
 have hcm:=compare_any L A ln lc n c last xs w hL hx
 obtain⟨k,hk⟩:=nm_ (behind last xs)
 rw[hk] at hcm⊢
 have HC:=hd_ hcm
 clear hcm hk hL hx hfz
 cases f with
 |true=>
  go_enter Tryz.func143,Tryz.ntmps143
  go_wp2
  first |refine bodyPost_ret (results_none rfl _ _ _) rfl ?_ |refine bodyPost_normal (results_none rfl _ _ _) rfl ?_ |go_end0
  exact⟨rfl,rfl⟩
 |false=>
  go_enter Tryz.func143,Tryz.ntmps143
  go_wp2_with fail
  refine HC.out.mono ?_
  rintro e w' ⟨⟨q,rfl,hq,hqk⟩,rfl⟩
  cases k with
  |true=>
   have hz:(0:Int)<q:=of_decide_eq_true hqk
   go_wp2
   first |refine bodyPost_ret (results_none rfl _ _ _) rfl ?_ |refine bodyPost_normal (results_none rfl _ _ _) rfl ?_ |go_end0
   exact⟨rfl,rfl⟩
  |false=>
   have hz: ¬(0:Int)<q:=of_decide_eq_false hqk
   go_wp2
   first |refine bodyPost_ret (results_none rfl _ _ _) rfl ?_ |refine bodyPost_normal (results_none rfl _ _ _) rfl ?_ |go_end0
   exact⟨rfl,rfl⟩
end Go.Proofs.YtkjkhoglkpepiaaGreatDoor.ndc
