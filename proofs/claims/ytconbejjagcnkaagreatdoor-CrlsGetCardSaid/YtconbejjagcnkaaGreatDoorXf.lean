/- A slice of bytes that reads as a text; the number that its first eight bytes spell. The library's utf8.Valid at every slice of bytes: what it answers of the text that the bytes are; its own loop over words of eight bytes, and its three kinds of runes of several bytes. The document's Right, for every tag. -/
import Derived.Test.YtconbejjagcnkaaGreatDoorKa
import Derived.Test.YtconbejjagcnkaaGreatDoorProg
import Derived.Lib.ValidAsc
import Derived.Lib.Walk
import Derived.Lib.Endian
import Derived.Lib.EndianBits
import Derived.RegionTactic
import Derived.Deep.Draws
import Derived.Deep.QuietTactic
import Derived.Test.YtconbejjagcnkaaGreatDoorXc

namespace Go.Proofs.YtconbejjagcnkaaGreatDoor.tlvc
open Go.RowKit
set_option linter.unusedVariables false

/-- In the world w the slice at A, of n elements, holds the bytes of the text t. -/
def TB (w:World)(A:Option Addr)(n:Nat)(t:ByteArray):Prop:=
  t.size=n∧(0<n→∃b off,A=some ⟨b,off,none⟩∧b<w.heap.size∧∀j,j<n→w.cell? ⟨b,off+j,none⟩=some (.int .u8 ((t.get! j).toNat:Int)))
theorem TB.of_bys {w:World}{A:Option Addr}{n:Nat}{xs:List Int}(h:Bys w A n xs):TB w A n (strOfNums xs):=by
  refine⟨by rw[strOfNums_size];exact h.1,fun hn=>?_⟩
  obtain⟨b,off,e,hb,hc⟩:=h.2.2 hn
  refine⟨b,off,e,hb,fun j hj=>?_⟩
  rw[hc j hj]
  have hf:=h.2.1.getD j
  have e2:(strOfNums xs).get! j=UInt8.ofNat (xs.getD j 0).toNat:=by
    rw[←Lib.getD_get!',strOfNums_data,List.getD_eq_getElem?_getD,List.getD_eq_getElem?_getD,List.getElem?_map]
    cases xs[j]? <;>rfl
  have e3:(((strOfNums xs).get! j).toNat:Int)=xs.getD j 0:=by
    rw[e2,UInt8.toNat_ofNat']
    omega
  rw[e3]
theorem TB.below {w w':World}{A:Option Addr}{n:Nat}{t:ByteArray}(h:TB w A n t)(hb:Below w.heap.size w w'):TB w' A n t:=
  ⟨h.1,fun hn=>by
    obtain⟨b,off,e,hl,hc⟩:=h.2 hn
    exact⟨b,off,e,Nat.lt_of_lt_of_le hl hb.size,fun j hj=>(hb.cell (p:=⟨b,off+j,none⟩) hl).trans (hc j hj)⟩⟩
theorem get_cut (t:ByteArray)(k j:Nat):(t.extract k t.size).get! j=t.get! (k+j):=by
  rw[←Lib.getD_get!',←Lib.getD_get!',Lib.ext_list,List.getD_eq_getElem?_getD,List.getD_eq_getElem?_getD,List.getElem?_drop]
theorem TB.cut {w:World}{A:Option Addr}{n:Nat}{t:ByteArray}(h:TB w A n t){k:Nat}(hk:k≤n):TB w (if n=k then A else A.map (·.add k)) (n - k) (t.extract k t.size):=by
  refine⟨by rw[Lib.ext_size,h.1],fun hn=>?_⟩
  obtain⟨b,off,rfl,hb,hc⟩:=h.2 (by omega)
  rw[if_neg (by omega)]
  refine⟨b,off+k,by simp[Addr.add_lit],hb,fun j hj=>?_⟩
  rw[Nat.add_assoc,hc (k+j) (by omega),get_cut]
end Go.Proofs.YtconbejjagcnkaaGreatDoor.tlvc
namespace Go.Proofs.YtconbejjagcnkaaGreatDoor.txc
open Go.RowKit Go.Proofs.YtconbejjagcnkaaGreatDoor.tlvc
set_option linter.unusedVariables false
theorem TB.tail {w:World}{b off n:Nat}{t:ByteArray}(h:TB w (some ⟨b,off,none⟩) n t){k:Nat}(hk:k≤n):TB w (some ⟨b,off+k,none⟩) (n - k) (t.extract k t.size):=by
  have:=h.cut hk
  refine⟨this.1,fun hn=>?_⟩
  rw[if_neg (by omega)] at this
  obtain⟨b',off',e,r⟩:=this.2 hn
  exact⟨b',off',by rw[←e];simp[Addr.add_lit],r⟩
end Go.Proofs.YtconbejjagcnkaaGreatDoor.txc
