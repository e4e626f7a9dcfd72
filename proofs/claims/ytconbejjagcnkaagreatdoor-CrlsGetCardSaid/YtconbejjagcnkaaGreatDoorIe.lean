/- Plain facts on masks' bodies; math/bits: Reverse8 and Len16. A mask's body: the program's PutBits. -/
import Derived.Test.YtconbejjagcnkaaGreatDoorIc
import Derived.Lib.BitFns
import Derived.Lib.Walk
import Derived.Lib.Small
namespace Go.Proofs.YtconbejjagcnkaaGreatDoor.intm
open Go.RowKit
set_option linter.unusedVariables false

/-- A byte's bits in the other order. -/
def rv (x:Int):Int:=x%2*128+x/ 2%2*64+x/ 4%2*32+x/ 8%2*16+x/ 16%2*8+x/ 32%2*4+x/ 64%2*2+x/ 128%2
theorem rv_bd (x:Int):0≤rv x∧rv x≤255:=by unfold rv;omega
/-- How many bits a byte has. -/
def lenB (x:Int):Int:=
  if x<1 then 0 else if x<2 then 1 else if x<4 then 2 else if x<8 then 3 else if x<16 then 4 else if x<32 then 5 else if x<64 then 6 else if x<128 then 7 else 8
theorem lenB_bd {x:Int}(h:1≤x):1≤lenB x∧lenB x≤8:=by
  unfold lenB;repeat' split
  all_goals omega
/-- One bit more. -/
theorem rv_step {b:Int}(h0:0≤b)(h:b≤255){j:Nat}(hj:j<8):
    (b/ 2^j%2=1→rv (b%2^ (j+1))=rv (b%2^j)+2^ (7 - j)∧bits .or .u8 (rv (b%2^j)) (2^ (7 - j))=rv (b%2^j)+2^ (7 - j))∧(b/ 2^j%2=0→rv (b%2^ (j+1))=rv (b%2^j)):=by
  have key: ∀k:Fin 256,∀i:Fin 8,((k.val:Int) / 2^i.val%2=1→rv ((k.val:Int)%2^ (i.val+1))=rv ((k.val:Int)%2^i.val)+2^ (7 - i.val)∧bits .or .u8 (rv ((k.val:Int)%2^i.val)) (2^ (7 - i.val))=rv ((k.val:Int)%2^i.val)+2^ (7 - i.val))∧((k.val:Int) / 2^i.val%2=0→rv ((k.val:Int)%2^ (i.val+1))=rv ((k.val:Int)%2^i.val)):=by decide+kernel
  obtain⟨k,rfl⟩:=Int.eq_ofNat_of_zero_le h0
  exact key ⟨k,by omega⟩ ⟨j,hj⟩
theorem rv_bit {b:Int}(h0:0≤b)(h:b≤255){j:Nat}(hj:j<8):b/ 2^ (7 - j)%2=rv b/ 2^j%2:=by
  have key: ∀k:Fin 256,∀i:Fin 8,(k.val:Int) / 2^ (7 - i.val)%2=rv (k.val:Int) / 2^i.val%2:=by decide+kernel
  obtain⟨k,rfl⟩:=Int.eq_ofNat_of_zero_le h0
  exact key ⟨k,by omega⟩ ⟨j,hj⟩

def U16 (m:Int):Prop:=0≤m∧m≤65535
/-- A mask's body. -/
def putM (m:Int):List Int:=
  if m=0 then [0] else if m<256 then [8 - lenB m,rv m] else [8 - lenB (m/ 256),rv (m%256),rv (m/ 256)]
theorem putM_bytes (m:Int)(h:U16 m): ∀x∈putM m,0≤x∧x≤255:=by
  unfold U16 at h
  intro x hx
  unfold putM at hx
  split at hx
  · simp at hx;omega
  · split at hx
    · have:=lenB_bd (x:=m) (by omega)
      have:=rv_bd m
      simp at hx;omega
    · have:=lenB_bd (x:=m/ 256) (by omega)
      have:=rv_bd (m%256)
      have:=rv_bd (m/ 256)
      simp at hx;omega
theorem putM_length (m:Int):1≤(putM m).length∧(putM m).length≤3:=by
  unfold putM
  split
  · simp
  · split<;>simp
/-- What a body tells, its first byte aside. -/
def maskF:List Int→Int
  |_::b::c::_=>rv b+256*rv c
  |_::b::_=>rv b
  |_=>0
theorem maskF_u16 (xs:List Int):U16 (maskF xs):=by
  unfold U16
  match xs with
  | []=>simp[maskF]
  | [_]=>simp[maskF]
  | [_,b]=>have:=rv_bd b;simp[maskF];omega
  |_::b::c::_=>have:=rv_bd b;have:=rv_bd c;simp[maskF];omega
/-- What Bits answers: the mask and the error. -/
def bitsF (xs:List Int):Int × Int:=if putM (maskF (xs.take 3))=xs then (maskF (xs.take 3),0) else (0,24)
end Go.Proofs.YtconbejjagcnkaaGreatDoor.intm

namespace Go.Proofs.YtconbejjagcnkaaGreatDoor.intc
open Go.RowKit Go.Proofs.YtconbejjagcnkaaGreatDoor.tlvc Go.Proofs.YtconbejjagcnkaaGreatDoor.intm
set_option linter.unusedVariables false

end Go.Proofs.YtconbejjagcnkaaGreatDoor.intc
namespace Go.Proofs.YtconbejjagcnkaaGreatDoor.intc
open Go.RowKit Go.Proofs.YtconbejjagcnkaaGreatDoor.tlvc Go.Proofs.YtconbejjagcnkaaGreatDoor.intm
set_option linter.unusedVariables false

theorem putM_zero:putM 0=[0]:=rfl
theorem putM_low {m:Int}(h1:1≤m)(h:m<256):putM m=[8 - lenB m,rv m]:=by unfold putM;rw[if_neg (by omega),if_pos h]
theorem putM_high {m:Int}(h:256≤m):putM m=[8 - lenB (m/ 256),rv (m%256),rv (m/ 256)]:=by unfold putM;rw[if_neg (by omega),if_neg (by omega)]

end Go.Proofs.YtconbejjagcnkaaGreatDoor.intc
