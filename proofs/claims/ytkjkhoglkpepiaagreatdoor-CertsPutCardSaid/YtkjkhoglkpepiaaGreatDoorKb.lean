/- How an argument that is a slice of bytes, or a slice of such -/
import Derived.Test.YtkjkhoglkpepiaaGreatDoorRows
import Derived.Test.YtkjkhoglkpepiaaGreatDoorKa
import Derived.ProofKit
import Derived.OpenShut
import Derived.ChangeOld
import Derived.SizedLaws
import Derived.Deep.Matrix
import Derived.Deep.Slices
import Derived.Deep.Fields
import Derived.ChangeArms
set_option linter.unusedVariables false
set_option linter.unusedSimpArgs false
namespace Go.Proofs.YtkjkhoglkpepiaaGreatDoor.tlvc
open Go.ChangeShapes Go.WideShapes Go.ChangeAt Go.RowKit
variable {H:Type} {enc:TypeId × Value→H} {P:Program} {W:World} {held:Bool}
def Spots (d:DataW H)(cap:Nat):Prop:=(d=.nil∧cap=0)∨ ∃es sp,d=.slice es sp∧es.length+sp.length=cap
theorem fit_of_wf {zs:List Int}(h: ∀n∈zs,(Lit.int .u8 n).wf=true):Fit zs:=fun n hn=>by
 have:=bounds_u8 (h n hn)
 omega
theorem bys_of_cells {A:Option Addr}{len cap:Nat}{zs:List Int}(hl:len≤cap)(hz:zs.length=cap)(hf:Fit zs)(hA:A=none→cap=0)(hc: ∀a,A=some a→∀i,i<cap→W.cell? (a.add i)=some (.int .u8 (zs.getD i 0))):Bys W A len (zs.take len):=by
 refine⟨by rw[List.length_take];omega,hf.take len,fun hn=>?_⟩
 rcases A with _ | ⟨b,off,spot⟩
 ·have:=hA rfl;omega
 ·have hc:=hc _ rfl
  have h0:=hc 0 (by omega)
  have hspot:spot=none:=by simpa[Addr.add] using World.cell?_spot h0
  subst hspot
  refine⟨b,off,rfl,?_,fun j hj=>?_⟩
  ·have:=World.block_lt_of_cell? W _ h0
   simpa[Addr.add] using this
  ·have:=hc j (by omega)
   rw[Addr.add_lit] at this
   rw[this]
   simp[List.getD_eq_getElem?_getD,hj]
theorem open_bys {t e:TypeId}{A:Option Addr}{len cap:Nat}{d:DataW H}{p:List MemPlace}(ht:P.underlying t=some (.slice e))(he:P.underlying e=some (.int .u8))(hc:P.cellsOf e=1)
 (h:DataW.Trod enc P W 0 (fun _=>true) held t (.slice A len cap) d p): ∃xs,Bys W A len xs∧len≤cap∧cap≤maxLen∧Spots d cap:=by
 obtain⟨fuel,hf⟩:=h
 rcases open_ints ht he hc hf with ⟨hcs,hx⟩ | ⟨x,l,c,zs,hcs,_,hl,hm,hz,hx,hcell,hwz⟩
 ·simp[Value.cells] at hcs
  obtain⟨rfl,rfl,rfl⟩:=hcs
  simp only[Prod.mk.injEq] at hx
  exact⟨[],Bys.nil_ W _,lr_ _,Nat.zero_le _,.inl ⟨hx.1,rfl⟩⟩
 ·simp[Value.cells] at hcs
  obtain⟨rfl,rfl,rfl⟩:=hcs
  simp only[Prod.mk.injEq] at hx
  have hz':zs.length=cap:=by simpa using hz
  refine⟨zs.take len,bys_of_cells hl hz' (fit_of_wf hwz) (fun h=>by cases h) (fun a ha i hi=>?_),hl,hm,.inr ⟨_,_,hx.1,?_⟩⟩
  ·cases ha
   exact hcell i (by omega)
  ·simp only[lits,List.length_map,List.length_take,List.length_drop]
   omega
def Bss (w:World)(A:Option Addr)(n:Nat)(xss:List (List Int)):Prop:=
 xss.length=n∧(0<n→∃b off,A=some ⟨b,off,none⟩∧b<w.heap.size∧
  ∀j,j<n→∃Aj nj cj,w.cell? ⟨b,off+j,none⟩=some (.slice Aj nj cj)∧Bys w Aj nj (xss.getD j [])∧nj≤cj∧cj≤maxLen)
theorem Bss.below {w w':World}{A:Option Addr}{n:Nat}{xss:List (List Int)}(h:Bss w A n xss)(hb:Below w.heap.size w w'):Bss w' A n xss:=
 ⟨h.1,fun hn=>by
   obtain⟨b,off,e,hlt,hc⟩:=h.2 hn
   refine⟨b,off,e,Nat.lt_of_lt_of_le hlt hb.size,fun j hj=>?_⟩
   obtain⟨Aj,nj,cj,h1,h2,h3,h4⟩:=hc j hj
   exact⟨Aj,nj,cj,(hb.cell (p:=⟨b,off+j,none⟩) hlt).trans h1,h2.below hb,h3,h4⟩⟩
end Go.Proofs.YtkjkhoglkpepiaaGreatDoor.tlvc
namespace Go.Proofs.YtkjkhoglkpepiaaGreatDoor.tlvc
open Go.ChangeShapes Go.WideShapes Go.ChangeAt Go.RowKit
variable {H:Type} {enc:TypeId × Value→H} {P:Program} {W:World} {held:Bool}
end Go.Proofs.YtkjkhoglkpepiaaGreatDoor.tlvc
namespace Go.Proofs.YtkjkhoglkpepiaaGreatDoor.ndc
open Go.ChangeShapes Go.WideShapes Go.ChangeAt Go.RowKit tlvc
instance:Inhabited Nd:=⟨.mk 0 [] []⟩
section
variable {H:Type} {enc:TypeId × Value→H} {P:Program} {W:World} {held:Bool}
theorem three {cs:List Value}(h:cs.length=3): ∃c0 c1 c2,cs=[c0,c1,c2]:=by
 match cs,h with
 | [c0,c1,c2],_=>exact⟨c0,c1,c2,rfl⟩
structure NdT (P:Program) (T:TypeId) where
 U:TypeId
 f0:Field
 f1:Field
 f2:Field
 hT:P.underlying T=some (.struct #[f0,f1,f2])
 hone:Go.Deep.oneCellFields P #[f0,f1,f2]=true
 hC:P.cellsOf T=3
 e0:P.underlying f0.type=some (.int .u8)
 e1:P.underlying f1.type=some (.slice U)
 eU:P.underlying U=some (.int .u8)
 cU:P.cellsOf U=1
 e2:P.underlying f2.type=some (.slice T)
end
end Go.Proofs.YtkjkhoglkpepiaaGreatDoor.ndc
namespace Go.Proofs.YtkjkhoglkpepiaaGreatDoor.dtc
open Go.ChangeShapes Go.WideShapes Go.ChangeAt Go.RowKit tlvc ndc
inductive Dt where
 |int (k:IntKind) (n:Int)
 |bool (b:Bool)
 |str (s:ByteArray)
 |bys (xs:List Int)
 |agg (l:List Dt)
 |row (sz:Nat) (l:List Dt)
instance:Inhabited Dt:=⟨.bool false⟩
mutual
def Lies (B:Nat→Prop)(w:World):Dt→List Value→Prop
 | .int k n,cs=>cs=[.int k n]∧(Lit.int k n).wf=true
 | .bool b,cs=>cs=[.bool b]
 | .str s,cs=>cs=[.string s]∧s.size≤maxLen
 | .bys xs,cs=>∃A la ca,cs=[.slice A la ca]∧la≤ca∧ca≤maxLen∧Bys w A la xs∧(0<la→∀g off sp,A=some ⟨g,off,sp⟩→B g)
 | .agg l,cs=>LiesAll B w l cs
 | .row sz l,cs=>∃A c,cs=[.slice A l.length c]∧l.length≤c∧c≤maxLen∧(0<l.length→∃g off,A=some ⟨g,off,none⟩∧g<w.heap.size∧B g∧LiesRow B w g sz off l)
def LiesAll (B:Nat→Prop)(w:World):List Dt→List Value→Prop
 | [],cs=>cs=[]
 |d::ds,cs=>∃a b,cs=a++b∧Lies B w d a∧LiesAll B w ds b
def LiesRow (B:Nat→Prop)(w:World)(g sz:Nat):Nat→List Dt→Prop
 |_,[]=>True
 |off,d::ds=>(∃cs:List Value,cs.length=sz∧(∀j u,cs[j]? =some u→w.cell? ⟨g,off+j,none⟩=some u)∧Lies B w d cs)∧LiesRow B w g sz (off+sz) ds
end
mutual
theorem Lies.stays {B:Nat→Prop}{w w':World}(hs:Stays B w w'): ∀(d:Dt) (cs:List Value),Lies B w d cs→Lies B w' d cs
 | .int k n,cs,h=>by unfold Lies at h⊢;exact h
 | .bool b,cs,h=>by unfold Lies at h⊢;exact h
 | .str s,cs,h=>by unfold Lies at h⊢;exact h
 | .bys xs,cs,h=>by
  unfold Lies at h⊢
  obtain⟨A,la,ca,e,h1,h2,h3,hB⟩:=h
  exact⟨A,la,ca,e,h1,h2,bys_stays hs h3 hB,hB⟩
 | .agg l,cs,h=>by unfold Lies at h⊢;exact LiesAll.stays hs l cs h
 | .row sz l,cs,h=>by
  unfold Lies at h⊢
  obtain⟨A,c,e,h1,h2,h3⟩:=h
  refine⟨A,c,e,h1,h2,fun hn=>?_⟩
  obtain⟨g,off,eA,hg,hBg,hr⟩:=h3 hn
  exact⟨g,off,eA,Nat.lt_of_lt_of_le hg hs.1,hBg,LiesRow.stays hs hg hBg l off hr⟩
theorem LiesAll.stays {B:Nat→Prop}{w w':World}(hs:Stays B w w'): ∀(l:List Dt) (cs:List Value),LiesAll B w l cs→LiesAll B w' l cs
 | [],cs,h=>by unfold LiesAll at h⊢;exact h
 |d::ds,cs,h=>by
  unfold LiesAll at h⊢
  obtain⟨a,b,e,h1,h2⟩:=h
  exact⟨a,b,e,Lies.stays hs d a h1,LiesAll.stays hs ds b h2⟩
theorem LiesRow.stays {B:Nat→Prop}{w w':World}(hs:Stays B w w'){g sz:Nat}(hg:g<w.heap.size)(hB:B g): ∀(l:List Dt) (off:Nat),LiesRow B w g sz off l→LiesRow B w' g sz off l
 | [],off,h=>by unfold LiesRow;trivial
 |d::ds,off,h=>by
  unfold LiesRow at h⊢
  obtain⟨⟨cs,h0,h1,h2⟩,h3⟩:=h
  exact⟨⟨cs,h0,fun j u hu=>(hs.2 ⟨g,off+j,none⟩ hB hg).trans (h1 j u hu),Lies.stays hs d cs h2⟩,LiesRow.stays hs hg hB ds (off+sz) h3⟩
end
theorem Lies.below {B:Nat→Prop}{w w':World}(hb:Below w.heap.size w w'){d:Dt}{cs:List Value}(h:Lies B w d cs):Lies B w' d cs:=Lies.stays (stays_below hb B) d cs h
mutual
theorem Lies.mono {B B':Nat→Prop}{w:World}(hB: ∀g,B g→B' g): ∀(d:Dt) (cs:List Value),Lies B w d cs→Lies B' w d cs
 | .int k n,cs,h=>by unfold Lies at h⊢;exact h
 | .bool b,cs,h=>by unfold Lies at h⊢;exact h
 | .str s,cs,h=>by unfold Lies at h⊢;exact h
 | .bys xs,cs,h=>by
  unfold Lies at h⊢
  obtain⟨A,la,ca,e,h1,h2,h3,h4⟩:=h
  exact⟨A,la,ca,e,h1,h2,h3,fun hl g off sp e=>hB _ (h4 hl g off sp e)⟩
 | .agg l,cs,h=>by unfold Lies at h⊢;exact LiesAll.mono hB l cs h
 | .row sz l,cs,h=>by
  unfold Lies at h⊢
  obtain⟨A,c,e,h1,h2,h3⟩:=h
  refine⟨A,c,e,h1,h2,fun hn=>?_⟩
  obtain⟨g,off,eA,hg,hBg,hr⟩:=h3 hn
  exact⟨g,off,eA,hg,hB _ hBg,LiesRow.mono hB l off hr⟩
theorem LiesAll.mono {B B':Nat→Prop}{w:World}(hB: ∀g,B g→B' g): ∀(l:List Dt) (cs:List Value),LiesAll B w l cs→LiesAll B' w l cs
 | [],cs,h=>by unfold LiesAll at h⊢;exact h
 |d::ds,cs,h=>by
  unfold LiesAll at h⊢
  obtain⟨a,b,e,h1,h2⟩:=h
  exact⟨a,b,e,Lies.mono hB d a h1,LiesAll.mono hB ds b h2⟩
theorem LiesRow.mono {B B':Nat→Prop}{w:World}(hB: ∀g,B g→B' g){g sz:Nat}: ∀(l:List Dt) (off:Nat),LiesRow B w g sz off l→LiesRow B' w g sz off l
 | [],off,h=>by unfold LiesRow;trivial
 |d::ds,off,h=>by
  unfold LiesRow at h⊢
  obtain⟨⟨cs,h0,h1,h2⟩,h3⟩:=h
  exact⟨⟨cs,h0,h1,Lies.mono hB d cs h2⟩,LiesRow.mono hB ds (off+sz) h3⟩
end
mutual
theorem Lies.bound {B:Nat→Prop}{w:World}: ∀(d:Dt) (cs:List Value),Lies B w d cs→Lies (fun g=>B g∧g<w.heap.size) w d cs
 | .int k n,cs,h=>by unfold Lies at h⊢;exact h
 | .bool b,cs,h=>by unfold Lies at h⊢;exact h
 | .str s,cs,h=>by unfold Lies at h⊢;exact h
 | .bys xs,cs,h=>by
  unfold Lies at h⊢
  obtain⟨A,la,ca,e,h1,h2,h3,h4⟩:=h
  refine⟨A,la,ca,e,h1,h2,h3,fun hl g off sp e=>⟨h4 hl g off sp e,?_⟩⟩
  obtain⟨b',off',e',hb',_⟩:=h3.2.2 hl
  rw[e'] at e;cases e;exact hb'
 | .agg l,cs,h=>by unfold Lies at h⊢;exact LiesAll.bound l cs h
 | .row sz l,cs,h=>by
  unfold Lies at h⊢
  obtain⟨A,c,e,h1,h2,h3⟩:=h
  refine⟨A,c,e,h1,h2,fun hn=>?_⟩
  obtain⟨g,off,eA,hg,hBg,hr⟩:=h3 hn
  exact⟨g,off,eA,hg,⟨hBg,hg⟩,LiesRow.bound l off hr⟩
theorem LiesAll.bound {B:Nat→Prop}{w:World}: ∀(l:List Dt) (cs:List Value),LiesAll B w l cs→LiesAll (fun g=>B g∧g<w.heap.size) w l cs
 | [],cs,h=>by unfold LiesAll at h⊢;exact h
 |d::ds,cs,h=>by
  unfold LiesAll at h⊢
  obtain⟨a,b,e,h1,h2⟩:=h
  exact⟨a,b,e,Lies.bound d a h1,LiesAll.bound ds b h2⟩
theorem LiesRow.bound {B:Nat→Prop}{w:World}{g sz:Nat}: ∀(l:List Dt) (off:Nat),LiesRow B w g sz off l→LiesRow (fun g=>B g∧g<w.heap.size) w g sz off l
 | [],off,h=>by unfold LiesRow;trivial
 |d::ds,off,h=>by
  unfold LiesRow at h⊢
  obtain⟨⟨cs,h0,h1,h2⟩,h3⟩:=h
  exact⟨⟨cs,h0,h1,Lies.bound d cs h2⟩,LiesRow.bound ds (off+sz) h3⟩
end
theorem LiesRow.of {B:Nat→Prop}{w:World}{g sz:Nat}: ∀{l:List Dt} {off:Nat},(∀(i:Nat) (hi:i<l.length),∃cs:List Value,cs.length=sz∧(∀j u,cs[j]? =some u→w.cell? ⟨g,off+i*sz+j,none⟩=some u)∧Lies B w l[i] cs)→LiesRow B w g sz off l
 | [],_,_=>by unfold LiesRow;trivial
 |d::ds,off,h=>by
  unfold LiesRow
  refine⟨?_,LiesRow.of fun i hi=>?_⟩
  ·obtain⟨cs,h0,h1,h2⟩:=h 0 (by simp)
   exact⟨cs,h0,fun j u hu=>by have:=h1 j u hu;simpa using this,h2⟩
  ·obtain⟨cs,h0,h1,h2⟩:=h (i+1) (by simpa using hi)
   refine⟨cs,h0,fun j u hu=>?_,h2⟩
   have:=h1 j u hu
   rwa[show off+ (i+1)*sz+j=off+sz+i*sz+j by rw[Nat.succ_mul];omega] at this
theorem LiesRow.at {B:Nat→Prop}{w:World}{g sz:Nat}: ∀{l:List Dt} {off:Nat},LiesRow B w g sz off l→∀(i:Nat) (hi:i<l.length),∃cs:List Value,cs.length=sz∧(∀j u,cs[j]? =some u→w.cell? ⟨g,off+i*sz+j,none⟩=some u)∧Lies B w l[i] cs
 | [],_,_,_,hi=>absurd hi (by simp)
 |d::ds,off,h,0,_=>by
  unfold LiesRow at h
  obtain⟨⟨cs,h0,h1,h2⟩,_⟩:=h
  exact⟨cs,h0,fun j u hu=>by simpa using h1 j u hu,h2⟩
 |d::ds,off,h,i+1,hi=>by
  unfold LiesRow at h
  obtain⟨cs,h0,h1,h2⟩:=LiesRow.at h.2 i (by simpa using hi)
  refine⟨cs,h0,fun j u hu=>?_,h2⟩
  rw[show off+ (i+1)*sz+j=off+sz+i*sz+j by rw[Nat.succ_mul];omega]
  exact h1 j u hu
inductive Sh where
 |int (k:IntKind)
 |bool
 |str
 |bys
 |agg (l:List Sh)
 |row (s:Sh)
mutual
def Sh.sz:Sh→Nat
 | .agg l=>szs l
 | .int _=>1
 | .bool=>1
 | .str=>1
 | .bys=>1
 | .row _=>1
def szs:List Sh→Nat
 | []=>0
 |s::ss=>s.sz+szs ss
end
mutual
def IsSh:Sh→Dt→Prop
 | .int k,d=>∃n,d=.int k n
 | .bool,d=>∃b,d=.bool b
 | .str,d=>∃s,d=.str s
 | .bys,d=>∃xs,d=.bys xs
 | .agg l,d=>∃ds,d=.agg ds∧IsShs l ds
 | .row s,d=>∃ds,d=.row s.sz ds∧∀x∈ds,IsSh s x
def IsShs:List Sh→List Dt→Prop
 | [],[]=>True
 |s::ss,d::ds=>IsSh s d∧IsShs ss ds
 | [],_::_=>False
 |_::_,[]=>False
end
mutual
def fitDt:Dt→Prop
 | .int _ _=>True
 | .bool _=>True
 | .str s=>s.size≤140737488351232
 | .bys xs=>xs.length≤140737488351232
 | .agg l=>fitDts l
 | .row _ l=>fitDts l
def fitDts:List Dt→Prop
 | []=>True
 |d::ds=>fitDt d∧fitDts ds
end
theorem fitDts_all: ∀{l:List Dt},fitDts l↔ ∀d∈l,fitDt d
 | []=>by unfold fitDts;simp
 |d::ds=>by unfold fitDts;rw[fitDts_all];simp
mutual
def Fits (P:Program):Sh→TypeId→Prop
 | .int k,T=>P.underlying T=some (.int k)∧P.cellsOf T=1
 | .bool,T=>P.underlying T=some .bool∧P.cellsOf T=1
 | .str,T=>P.underlying T=some .string∧P.cellsOf T=1
 | .bys,T=>∃U,P.underlying T=some (.slice U)∧P.underlying U=some (.int .u8)∧P.cellsOf U=1∧P.bytesOf U=1∧P.cellsOf T=1
 | .agg l,T=>∃fs:Array Field,P.underlying T=some (.struct fs)∧P.cellsOf T=szs l∧FitsAll P 0 l fs.toList
 | .row s,T=>∃U,P.underlying T=some (.slice U)∧Fits P s U∧P.cellsOf T=1∧0<s.sz
def FitsAll (P:Program):Nat→List Sh→List Field→Prop
 |_,[],[]=>True
 |off,s::ss,f::fs=>f.offset=off∧Fits P s f.type∧FitsAll P (off+s.sz) ss fs
 |_,[],_::_=>False
 |_,_::_,[]=>False
end
section
variable {P:Program} {T:TypeId}
theorem fit_int {k:IntKind}(h:P.underlying T=some (.int k))(hc:P.cellsOf T=1):Fits P (.int k) T:=by unfold Fits;exact⟨h,hc⟩
theorem fit_bool (h:P.underlying T=some .bool)(hc:P.cellsOf T=1):Fits P .bool T:=by unfold Fits;exact⟨h,hc⟩
theorem fit_str (h:P.underlying T=some .string)(hc:P.cellsOf T=1):Fits P .str T:=by unfold Fits;exact⟨h,hc⟩
theorem fit_bys {U:TypeId}(h:P.underlying T=some (.slice U))(hU:P.underlying U=some (.int .u8))(hc:P.cellsOf U=1)(hb:P.bytesOf U=1)(hT:P.cellsOf T=1):Fits P .bys T:=by unfold Fits;exact⟨U,h,hU,hc,hb,hT⟩
theorem fit_agg {l:List Sh}{fs:Array Field}(h:P.underlying T=some (.struct fs))(hc:P.cellsOf T=szs l)(hf:FitsAll P 0 l fs.toList):Fits P (.agg l) T:=by unfold Fits;exact⟨fs,h,hc,hf⟩
theorem fit_row {s:Sh}{U:TypeId}(h:P.underlying T=some (.slice U))(hs:Fits P s U)(hc:P.cellsOf T=1)(hz:decide (0<s.sz)=true):Fits P (.row s) T:=by unfold Fits;exact⟨U,h,hs,hc,of_decide_eq_true hz⟩
theorem fits_nil {off:Nat}:FitsAll P off [] []:=by unfold FitsAll;trivial
theorem fits_cons {off:Nat}{s:Sh}{ss:List Sh}{f:Field}{fs:List Field}(ho:f.offset=off)(hs:Fits P s f.type)(hr:FitsAll P (off+s.sz) ss fs):FitsAll P off (s::ss) (f::fs):=by unfold FitsAll;exact⟨ho,hs,hr⟩
theorem Fits.cells: ∀{s:Sh},Fits P s T→P.cellsOf T=s.sz
 | .int k,h=>by unfold Fits at h;unfold Sh.sz;exact h.2
 | .bool,h=>by unfold Fits at h;unfold Sh.sz;exact h.2
 | .str,h=>by unfold Fits at h;unfold Sh.sz;exact h.2
 | .bys,h=>by unfold Fits at h;unfold Sh.sz;obtain⟨_,_,_,_,_,h⟩:=h;exact h
 | .agg l,h=>by unfold Fits at h;unfold Sh.sz;obtain⟨_,_,h,_⟩:=h;exact h
 | .row s,h=>by unfold Fits at h;unfold Sh.sz;obtain⟨_,_,_,h,_⟩:=h;exact h
end
end Go.Proofs.YtkjkhoglkpepiaaGreatDoor.dtc
namespace Go.Proofs.YtkjkhoglkpepiaaGreatDoor.dtc
open Go.ChangeShapes Go.WideShapes Go.ChangeAt Go.RowKit tlvc ndc
section
variable {H:Type} {enc:TypeId × Value→H} {P:Program} {W:World} {held:Bool}
def AllFit (l:List Nat):Prop:=l.all (· ≤reachBytes)=true
theorem AllFit.left {a b:List Nat}(h:AllFit (a++b)):AllFit a:=by unfold AllFit at*;rw[List.all_append,Bool.and_eq_true] at h;exact h.1
theorem AllFit.right {a b:List Nat}(h:AllFit (a++b)):AllFit b:=by unfold AllFit at*;rw[List.all_append,Bool.and_eq_true] at h;exact h.2
theorem allFit_mem {T:TypeId}: ∀{l:List (DataW H)} {d:DataW H},AllFit (DataW.weightsAll P T l)→d∈l→AllFit (d.weights P T)
 | [],_,_,h=>by simp at h
 |x::l,d,h,hd=>by
  unfold DataW.weightsAll at h
  rcases List.mem_cons.1 hd with rfl |hd
  ·exact h.left
  ·exact allFit_mem h.right hd
theorem each_fit {ts:List TypeId}{ds:List (DataW H)}(hsz:(DataW.weightsEach P ts ds).all (· ≤reachBytes)=true){j:Nat}{t:TypeId}{d:DataW H}(h1:ts[j]? =some t)(h2:ds[j]? =some d):AllFit (d.weights P t):=
 List.all_eq_true.2 fun n hn=>List.all_eq_true.1 hsz n (DataW.weights_mem_each h1 h2 n hn)
mutual
theorem sh_of: ∀(s:Sh) (T:TypeId),Fits P s T→∀(fuel:Nat) (cs:List Value) (x:DataW H × List MemPlace),DataW.trod enc P W 0 (fun _=>true) held fuel T cs=some x→
 cs.length=s.sz∧∃d,IsSh s d∧Lies (fun _=>True) W d cs∧(AllFit (x.1.weights P T)→fitDt d)
 | .int k,T,hF,fuel,cs,x,h=>by
  unfold Fits at hF
  obtain⟨n,rfl,_,hw⟩:=DataW.trod_int hF.1 h
  refine⟨rfl,.int k n,?_,?_,fun _=>?_⟩
  ·unfold IsSh;exact⟨n,rfl⟩
  ·unfold Lies;exact⟨rfl,hw⟩
  ·unfold fitDt;trivial
 | .bool,T,hF,fuel,cs,x,h=>by
  unfold Fits at hF
  obtain⟨b,rfl,_⟩:=DataW.trod_bool hF.1 h
  refine⟨rfl,.bool b,?_,?_,fun _=>?_⟩
  ·unfold IsSh;exact⟨b,rfl⟩
  ·unfold Lies;rfl
  ·unfold fitDt;trivial
 | .str,T,hF,fuel,cs,x,h=>by
  unfold Fits at hF
  obtain⟨s,rfl,hx,hm⟩:=DataW.trod_string hF.1 h
  refine⟨rfl,.str s,?_,?_,fun hw=>?_⟩
  ·unfold IsSh;exact⟨s,rfl⟩
  ·unfold Lies;exact⟨rfl,hm⟩
  ·unfold fitDt
   rw[hx] at hw
   unfold DataW.weights at hw
   unfold AllFit at hw
   simp only[List.all_cons,List.all_nil,Bool.and_true] at hw
   have:=of_decide_eq_true hw
   unfold reachBytes at this
   have e:s.data.toList.length=s.size:=Array.length_toList
   omega
 | .bys,T,hF,fuel,cs,x,h=>by
  unfold Fits at hF
  obtain⟨U,hT,hU,hc,hb,_⟩:=hF
  have hcs: ∃A la ca,cs=[.slice A la ca]∧(AllFit (x.1.weights P T)→la≤140737488351232):=by
   rcases DataW.trod_slice hT h with ⟨e,_⟩ | ⟨a,len,cap,elems,rest,_,_,e,hy,_,_,_,hlen,_⟩
   ·exact⟨none,0,0,e,fun _=>by omega⟩
   ·refine⟨some a,len,cap,e,fun hw=>?_⟩
    rw[hy] at hw
    unfold DataW.weights at hw
    rw[hT] at hw
    have hw:AllFit (((elems.map (·.1)).length+ (rest.map (·.1)).length)*P.bytesOf U::(DataW.weightsAll P U (elems.map (·.1))++DataW.weightsAll P U (rest.map (·.1)))):=hw
    have hw2:=AllFit.left (a:=[_]) hw
    unfold AllFit at hw2
    rw[hb,List.length_map,List.length_map] at hw2
    simp only[List.all_cons,List.all_nil,Bool.and_true] at hw2
    have:=of_decide_eq_true hw2
    unfold reachBytes at this
    omega
  obtain⟨A,la,ca,rfl,hfa⟩:=hcs
  obtain⟨b,hby,hb1,hb2,_⟩:=open_bys hT hU hc ⟨fuel,h⟩
  refine⟨rfl,.bys b,?_,?_,fun hw=>?_⟩
  ·unfold IsSh;exact⟨b,rfl⟩
  ·unfold Lies;exact⟨A,la,ca,rfl,hb1,hb2,hby,fun _ _ _ _ _=>trivial⟩
  ·unfold fitDt;have:=hfa hw;have:=hby.1;omega
 | .agg l,T,hF,fuel,cs,x,h=>by
  unfold Fits at hF
  obtain⟨fs,hT,hc,hf⟩:=hF
  obtain⟨xs,m,rfl,hx,hl,hlen,hg⟩:=DataW.trod_struct hT h
  rw[hc] at hl
  obtain⟨ds,h1,h2,h3⟩:=shs_of l 0 fs.toList hf cs xs m (fun i f hi=>hg i f (by simpa using hi)) (by simpa using hlen) (by omega)
  refine⟨by unfold Sh.sz;exact hl,.agg ds,?_,?_,fun hw=>?_⟩
  ·unfold IsSh;exact⟨ds,rfl,h1⟩
  ·unfold Lies;simpa using h2
  ·unfold fitDt
   refine h3 ?_
   rw[hx] at hw
   unfold DataW.weights at hw
   rw[hT] at hw
   exact hw
 | .row s,T,hF,fuel,cs,x,h=>by
  unfold Fits at hF
  obtain⟨U,hT,hs,_,hz⟩:=hF
  have hsz:=hs.cells
  rcases DataW.trod_slice hT h with ⟨rfl,rfl⟩ | ⟨a,len,cap,elems,rest,m,rfl,rfl,rfl,_,hl,hm,hlen,hel,hsp,_⟩
  ·refine⟨rfl,.row s.sz [],?_,?_,fun _=>?_⟩
   ·unfold IsSh;exact⟨[],rfl,fun x hx=>by simp at hx⟩
   ·unfold Lies;exact⟨none,0,rfl,lr_ _,Nat.zero_le _,fun h=>absurd h (by simp)⟩
   ·unfold fitDt fitDts;trivial
  ·obtain⟨b,off,spot⟩:=a
   have each: ∀i,i<len→∃d:Dt,∃c:List Value,W.cells? 0 ((⟨b,off,spot⟩:Addr).add (i*s.sz)) s.sz=some c∧c.length=s.sz∧IsSh s d∧Lies (fun _=>True) W d c∧(∀e,elems[i]? =some e→AllFit (e.1.weights P U)→fitDt d):=by
    intro i hi
    have hk:=hel i hi
    rw[hsz,List.getElem?_eq_getElem (by omega)] at hk
    obtain⟨cs',h1,h2⟩:=Option.bind_eq_some_iff.1 hk
    obtain⟨h3,d,h4,h5,h6⟩:=sh_of s U hs m cs' _ h2
    exact⟨d,cs',h1,h3,h4,h5,fun e he=>by rw[List.getElem?_eq_getElem (by omega)] at he;cases he;exact h6⟩
   obtain⟨f,hf⟩:=Go.Deep.choose_lt each
   refine⟨rfl,.row s.sz ((List.range len).map f),?_,?_,fun hw=>?_⟩
   ·unfold IsSh
    refine⟨_,rfl,fun d hd=>?_⟩
    obtain⟨i,hi,rfl⟩:=List.mem_map.1 hd
    obtain⟨_,_,_,h4,_,_⟩:=hf i (List.mem_range.1 hi)
    exact h4
   ·unfold Lies
    refine⟨some ⟨b,off,spot⟩,cap,by simp,by simp;omega,hm,fun hn=>?_⟩
    have hn:0<len:=by simpa using hn
    obtain⟨c,hc,hcl,_⟩:=hf 0 hn
    have hcell:=(World.cells?_some hc).2.2 0 (by omega)
    rw[Nat.zero_mul,List.getElem?_eq_getElem (by omega)] at hcell
    have hspot:spot=none:=by simpa[Addr.add] using World.cell?_spot hcell
    subst hspot
    have hlt:b<W.heap.size:=by
     have:=World.block_lt_of_cell? W _ hcell
     simpa[Addr.add] using this
    refine⟨b,off,rfl,hlt,trivial,LiesRow.of fun i hi=>?_⟩
    have hi:i<len:=by simpa using hi
    obtain⟨c,hc,hcl,h4,h5,_⟩:=hf i hi
    refine⟨c,hcl,fun j u hu=>?_,by simpa using h5⟩
    have hj:=(List.getElem?_eq_some_iff.1 hu).1
    have:=(World.cells?_some hc).2.2 j (by omega)
    rw[Addr.add_lit,Addr.add_lit] at this
    rw[this,hu]
   ·unfold fitDt
    unfold DataW.weights at hw
    rw[hT] at hw
    have hw:AllFit (((elems.map (·.1)).length+ (rest.map (·.1)).length)*P.bytesOf U::(DataW.weightsAll P U (elems.map (·.1))++DataW.weightsAll P U (rest.map (·.1)))):=hw
    have hw2:AllFit (DataW.weightsAll P U (elems.map (·.1))):=(AllFit.right (a:=[_]) hw).left
    refine fitDts_all.2 fun d hd=>?_
    obtain⟨i,hi,rfl⟩:=List.mem_map.1 hd
    have hi:i<len:=List.mem_range.1 hi
    obtain⟨_,_,_,_,_,hfit⟩:=hf i hi
    have hel:elems[i]? =some (elems[i]'(by omega)):=List.getElem?_eq_getElem (by omega)
    exact hfit _ hel (allFit_mem hw2 (List.mem_map.2 ⟨_,List.getElem_mem _,rfl⟩))
theorem shs_of: ∀(l:List Sh) (off:Nat) (fs:List Field),FitsAll P off l fs→∀(cs:List Value) (xs:List (DataW H × List MemPlace)) (m:Nat),(∀(i:Nat) (f:Field),fs[i]? =some f→DataW.trod enc P W 0 (fun _=>true) held m f.type ((cs.drop f.offset).take (P.cellsOf f.type))=xs[i]?)→xs.length=fs.length→cs.length=off+szs l→
 ∃ds,IsShs l ds∧LiesAll (fun _=>True) W ds (cs.drop off)∧(AllFit (DataW.weightsEach P (fs.map (·.type)) (xs.map (·.1)))→fitDts ds)
 | [],off,[],hF,cs,xs,m,hg,hx,hl=>by
  refine⟨[],?_,?_,fun _=>?_⟩
  ·unfold IsShs;trivial
  ·unfold LiesAll;unfold szs at hl;exact List.drop_eq_nil_of_le (by omega)
  ·unfold fitDts;trivial
 | [],off,f::fs,hF,_,_,_,_,_,_=>by unfold FitsAll at hF;exact hF.elim
 |s::ss,off,[],hF,_,_,_,_,_,_=>by unfold FitsAll at hF;exact hF.elim
 |s::ss,off,f::fs,hF,cs,xs,m,hg,hx,hl=>by
  unfold FitsAll at hF
  obtain⟨ho,hs,hr⟩:=hF
  unfold szs at hl
  match xs,hx with
  |y::ys,hx=>
   have h0:=hg 0 f rfl
   rw[ho,hs.cells] at h0
   obtain⟨hpl,d,h1,h2,h3⟩:=sh_of s f.type hs m _ y h0
   obtain⟨ds,k1,k2,k3⟩:=shs_of ss (off+s.sz) fs hr cs ys m (fun i f' hi=>by have:=hg (i+1) f' (by simpa using hi);simpa using this) (by simpa using hx) (by omega)
   refine⟨d::ds,?_,?_,fun hw=>?_⟩
   ·unfold IsShs;exact⟨h1,k1⟩
   ·unfold LiesAll
    refine⟨(cs.drop off).take s.sz,cs.drop (off+s.sz),?_,h2,k2⟩
    rw[←List.drop_drop,List.take_append_drop]
   ·unfold fitDts
    have hw:AllFit (y.1.weights P f.type++DataW.weightsEach P (fs.map (·.type)) (ys.map (·.1))):=hw
    exact⟨h3 hw.left,k3 hw.right⟩
end
theorem open_agg {l:List Sh}{T:TypeId}{fs:Array Field}(hT:P.underlying T=some (.struct fs))(hF:Fits P (.agg l) T){r:Reach}{b0:Nat}{v:Value}{d:DataW H}{p:List MemPlace}(hv:Value.okWide P W r b0 T v)(h:DataW.Trod enc P W 0 (fun _=>true) held T v d p):
 ∃(cs:List Value) (ds:List Dt),v=.agg cs.toArray∧cs.length=szs l∧IsShs l ds∧LiesAll (fun _=>True) W ds cs∧(AllFit (d.weights P T)→fitDts ds):=by
 obtain⟨cs,rfl,hsz⟩:=okWide_struct hT hv
 obtain⟨fuel,hf⟩:=h
 obtain⟨hl,x,h1,h2,h3⟩:=sh_of (.agg l) T hF fuel _ _ hf
 unfold IsSh at h1
 obtain⟨ds,rfl,hs⟩:=h1
 unfold Lies at h2
 unfold Sh.sz at hl
 have e:(Value.agg cs).cells=cs:=rfl
 rw[e] at hl h2
 exact⟨cs.toList,ds,by simp,hl,hs,h2,fun hw=>by have:=h3 hw;unfold fitDt at this;exact this⟩
end
end Go.Proofs.YtkjkhoglkpepiaaGreatDoor.dtc
