/- Plain facts on masks' bodies; math/bits: Reverse8 and Len16. -/
import Derived.Test.YtconbejjagcnkaaDoorIc
import Derived.Lib.BitFns
import Derived.Lib.Walk
import Derived.Lib.Small
set_option maxRecDepth 100000
set_option maxHeartbeats 4000000
set_option linter.unusedVariables false
set_option linter.unusedSimpArgs false
namespace Go.Proofs.YtconbejjagcnkaaDoor.intm
open Go.RowKit
def rv (x:Int):Int:=x%2*128+x/ 2%2*64+x/ 4%2*32+x/ 8%2*16+x/ 16%2*8+x/ 32%2*4+x/ 64%2*2+x/ 128%2
theorem rv_bd (x:Int):0≤rv x∧rv x≤255:=by unfold rv;omega
theorem byte_of {p:Int→Prop}(key: ∀k:Fin 256,p (k.val:Int)){x:Int}(h0:0≤x)(h:x≤255):p x:=by
 obtain⟨k,rfl⟩:=Int.eq_ofNat_of_zero_le h0
 exact key ⟨k,by omega⟩
theorem rv_rv {x:Int}(h0:0≤x)(h:x≤255):rv (rv x)=x:=byte_of (p:=fun x=>rv (rv x)=x) (by decide+kernel) h0 h
def lenB (x:Int):Int:=
 if x<1 then 0 else if x<2 then 1 else if x<4 then 2 else if x<8 then 3 else if x<16 then 4 else if x<32 then 5 else if x<64 then 6 else if x<128 then 7 else 8
def len16 (m:Int):Int:=if m<256 then lenB m else 8+lenB (m/ 256)
theorem lenB_bd {x:Int}(h:1≤x):1≤lenB x∧lenB x≤8:=by
 unfold lenB;repeat' split
 all_goals omega
def U16 (m:Int):Prop:=0≤m∧m≤65535
def putM (m:Int):List Int:=
 if m=0 then [0] else if m<256 then [8 - lenB m,rv m] else [8 - lenB (m/ 256),rv (m%256),rv (m/ 256)]
theorem putM_bytes (m:Int)(h:U16 m): ∀x∈putM m,0≤x∧x≤255:=by
 unfold U16 at h
 intro x hx
 unfold putM at hx
 split at hx
 ·simp at hx;omega
 ·split at hx
  ·have:=lenB_bd (x:=m) (by omega)
   have:=rv_bd m
   simp at hx;omega
  ·have:=lenB_bd (x:=m/ 256) (by omega)
   have:=rv_bd (m%256)
   have:=rv_bd (m/ 256)
   simp at hx;omega
theorem putM_length (m:Int):1≤(putM m).length∧(putM m).length≤3:=by
 unfold putM
 split
 ·simp
 ·split<;>simp
def maskF:List Int→Int
 |_::b::c::_=>rv b+256*rv c
 |_::b::_=>rv b
 |_=>0
theorem maskF_u16 (xs:List Int):U16 (maskF xs):=by
 unfold U16
 match xs with
 | []=>simp[maskF]
 | [_]=>simp[maskF]
 | [_,b]=>have:=rv_bd b;simp[maskF];omega
 |_::b::c::_=>have:=rv_bd b;have:=rv_bd c;simp[maskF];omega
theorem maskF_putM {m:Int}(h:U16 m):maskF (putM m)=m:=by
 unfold U16 at h
 unfold putM
 split
 ·rename_i e;rw[e];rfl
 ·split
  ·exact rv_rv (by omega) (by omega)
  ·show rv (rv (m%256))+256*rv (rv (m/ 256))=m
   rw[rv_rv (by omega) (by omega),rv_rv (by omega) (by omega)]
   omega
def bitsF (xs:List Int):Int × Int:=if putM (maskF (xs.take 3))=xs then (maskF (xs.take 3),0) else (0,24)
end Go.Proofs.YtconbejjagcnkaaDoor.intm
namespace Go.Proofs.YtconbejjagcnkaaDoor.intc
open Go.RowKit tlvc intm
theorem lib_rev8 {x:Int}(h0:0≤x)(h:x≤255):Lib.rev8 x=rv x:=byte_of (p:=fun x=>Lib.rev8 x=rv x) (by decide+kernel) h0 h
theorem lib_len8 {x:Int}(h0:0≤x)(h:x≤255):Lib.len8 x=lenB x:=byte_of (p:=fun x=>Lib.len8 x=lenB x) (by decide+kernel) h0 h
end Go.Proofs.YtconbejjagcnkaaDoor.intc
namespace Go.Proofs.YtconbejjagcnkaaDoor.intc
open Go.RowKit tlvc intm
theorem putM_zero:putM 0=[0]:=rfl
theorem putM_low {m:Int}(h1:1≤m)(h:m<256):putM m=[8 - lenB m,rv m]:=by unfold putM;rw[if_neg (by omega),if_pos h]
theorem putM_high {m:Int}(h:256≤m):putM m=[8 - lenB (m/ 256),rv (m%256),rv (m/ 256)]:=by unfold putM;rw[if_neg (by omega),if_neg (by omega)]
end Go.Proofs.YtconbejjagcnkaaDoor.intc
