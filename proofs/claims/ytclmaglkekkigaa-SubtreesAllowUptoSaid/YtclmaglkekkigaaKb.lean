/- How an argument that is a slice of bytes, or a slice of such slices, is opened; what the form's reach and the second form's bound give of it. How an argument that is a slice of integers is opened. How an argument that is a tree of nodes, or a slice of such, is opened. Nothing here names the program. Data of any plain shape in memory: a tree of numbers, truths, texts, bytes, structs and lists. Nothing here names the program. How an argument of any plain shape is opened. Nothing here names the program. -/
import Derived.Test.YtclmaglkekkigaaRows
import Derived.Test.YtclmaglkekkigaaKa
import Derived.ProofKit
import Derived.OpenShut
import Derived.ChangeOld
import Derived.SizedLaws
import Derived.Deep.Matrix
import Derived.Deep.Slices
import Derived.Deep.Fields
import Derived.ChangeArms
namespace Go.Proofs.Ytclmaglkekkigaa.tlvc
open Go.ChangeShapes Go.WideShapes Go.ChangeAt Go.RowKit
set_option linter.unusedVariables false

variable {H:Type} {enc:TypeId × Value→H} {P:Program} {W:World} {held:Bool}

/-- The datum of a slice with so many places. -/
def Spots (d:DataW H)(cap:Nat):Prop:=(d=.nil∧cap=0)∨ ∃es sp,d=.slice es sp∧es.length+sp.length=cap

theorem fit_of_wf {zs:List Int}(h: ∀n∈zs,(Lit.int .u8 n).wf=true):Fit zs:=fun n hn=>by
  have:=bounds_u8 (h n hn)
  omega

theorem bys_of_cells {A:Option Addr}{len cap:Nat}{zs:List Int}(hl:len≤cap)(hz:zs.length=cap)(hf:Fit zs)(hA:A=none→cap=0)(hc: ∀a,A=some a→∀i,i<cap→W.cell? (a.add i)=some (.int .u8 (zs.getD i 0))):Bys W A len (zs.take len):=by
  refine⟨by rw[List.length_take];omega,hf.take len,fun hn=>?_⟩
  rcases A with _ | ⟨b,off,spot⟩
  · have:=hA rfl;omega
  · have hc:=hc _ rfl
    have h0:=hc 0 (by omega)
    have hspot:spot=none:=by simpa[Addr.add] using World.cell?_spot h0
    subst hspot
    refine⟨b,off,rfl,?_,fun j hj=>?_⟩
    · have:=World.block_lt_of_cell? W _ h0
      simpa[Addr.add] using this
    · have:=hc j (by omega)
      rw[Addr.add_lit] at this
      rw[this]
      simp[List.getD_eq_getElem?_getD,hj]

theorem open_bys {t e:TypeId}{A:Option Addr}{len cap:Nat}{d:DataW H}{p:List MemPlace}(ht:P.underlying t=some (.slice e))(he:P.underlying e=some (.int .u8))(hc:P.cellsOf e=1)
    (h:DataW.Trod enc P W 0 (fun _=>true) held t (.slice A len cap) d p): ∃xs,Bys W A len xs∧len≤cap∧cap≤maxLen∧Spots d cap:=by
  obtain⟨fuel,hf⟩:=h
  rcases open_ints ht he hc hf with ⟨hcs,hx⟩ | ⟨x,l,c,zs,hcs,_,hl,hm,hz,hx,hcell,hwz⟩
  · simp[Value.cells] at hcs
    obtain⟨rfl,rfl,rfl⟩:=hcs
    simp only[Prod.mk.injEq] at hx
    exact⟨[],Bys.nil_ W _,Nat.le_refl _,Nat.zero_le _,.inl ⟨hx.1,rfl⟩⟩
  · simp[Value.cells] at hcs
    obtain⟨rfl,rfl,rfl⟩:=hcs
    simp only[Prod.mk.injEq] at hx
    have hz':zs.length=cap:=by simpa using hz
    refine⟨zs.take len,bys_of_cells hl hz' (fit_of_wf hwz) (fun h=>by cases h) (fun a ha i hi=>?_),hl,hm,.inr ⟨_,_,hx.1,?_⟩⟩
    · cases ha
      exact hcell i (by omega)
    · simp only[lits,List.length_map,List.length_take,List.length_drop]
      omega

/-- A slice of slices of bytes. -/
def Bss (w:World)(A:Option Addr)(n:Nat)(xss:List (List Int)):Prop:=
  xss.length=n∧(0<n→∃b off,A=some ⟨b,off,none⟩∧b<w.heap.size∧
    ∀j,j<n→∃Aj nj cj,w.cell? ⟨b,off+j,none⟩=some (.slice Aj nj cj)∧Bys w Aj nj (xss.getD j [])∧nj≤cj∧cj≤maxLen)

theorem Bss.below {w w':World}{A:Option Addr}{n:Nat}{xss:List (List Int)}(h:Bss w A n xss)(hb:Below w.heap.size w w'):Bss w' A n xss:=
  ⟨h.1,fun hn=>by
    obtain⟨b,off,e,hlt,hc⟩:=h.2 hn
    refine⟨b,off,e,Nat.lt_of_lt_of_le hlt hb.size,fun j hj=>?_⟩
    obtain⟨Aj,nj,cj,h1,h2,h3,h4⟩:=hc j hj
    exact⟨Aj,nj,cj,(hb.cell (p:=⟨b,off+j,none⟩) hlt).trans h1,h2.below hb,h3,h4⟩⟩

theorem bulk_in {l:List (DataW H)}{j:Nat}{d:DataW H}(h:l[j]? =some d):Rows.uptoBulk d≤Rows.uptoBulkAll l:=by
  induction l generalizing j with
  |nil=>simp at h
  |cons x r ih=>
   simp only[Rows.uptoBulkAll]
   cases j with
   |zero=>simp at h;subst h;omega
   |succ j=>have:=ih (by simpa using h);omega
end Go.Proofs.Ytclmaglkekkigaa.tlvc
namespace Go.Proofs.Ytclmaglkekkigaa.tlvc
open Go.ChangeShapes Go.WideShapes Go.ChangeAt Go.RowKit
set_option linter.unusedVariables false
variable {H:Type} {enc:TypeId × Value→H} {P:Program} {W:World} {held:Bool}

end Go.Proofs.Ytclmaglkekkigaa.tlvc
namespace Go.Proofs.Ytclmaglkekkigaa.ndc
open Go.ChangeShapes Go.WideShapes Go.ChangeAt Go.RowKit Go.Proofs.Ytclmaglkekkigaa.tlvc
set_option linter.unusedVariables false
instance:Inhabited Nd:=⟨.mk 0 [] []⟩
section
variable {H:Type} {enc:TypeId × Value→H} {P:Program} {W:World} {held:Bool}
theorem three {cs:List Value}(h:cs.length=3): ∃c0 c1 c2,cs=[c0,c1,c2]:=by
  match cs,h with
  | [c0,c1,c2],_=>exact⟨c0,c1,c2,rfl⟩
/-- What memory must have of a type of nodes. -/
structure NdT (P:Program) (T:TypeId) where
  U:TypeId
  f0:Field
  f1:Field
  f2:Field
  hT:P.underlying T=some (.struct #[f0,f1,f2])
  hone:Go.Deep.oneCellFields P #[f0,f1,f2]=true
  hC:P.cellsOf T=3
  e0:P.underlying f0.type=some (.int .u8)
  e1:P.underlying f1.type=some (.slice U)
  eU:P.underlying U=some (.int .u8)
  cU:P.cellsOf U=1
  e2:P.underlying f2.type=some (.slice T)
end
end Go.Proofs.Ytclmaglkekkigaa.ndc
namespace Go.Proofs.Ytclmaglkekkigaa.dtc
open Go.ChangeShapes Go.WideShapes Go.ChangeAt Go.RowKit Go.Proofs.Ytclmaglkekkigaa.tlvc Go.Proofs.Ytclmaglkekkigaa.ndc
set_option linter.unusedVariables false
inductive Dt where
  |int (k:IntKind) (n:Int)
  |bool (b:Bool)
  |str (s:ByteArray)
  |bys (xs:List Int)
  |agg (l:List Dt)
  |row (sz:Nat) (l:List Dt)
instance:Inhabited Dt:=⟨.bool false⟩
mutual
/-- In the world w these cells hold the data; what they lead to lies in blocks of B. -/
def Lies (B:Nat→Prop)(w:World):Dt→List Value→Prop
  | .int k n,cs=>cs=[.int k n]∧(Lit.int k n).wf=true
  | .bool b,cs=>cs=[.bool b]
  | .str s,cs=>cs=[.string s]∧s.size≤maxLen
  | .bys xs,cs=>∃A la ca,cs=[.slice A la ca]∧la≤ca∧ca≤maxLen∧Bys w A la xs∧(0<la→∀g off sp,A=some ⟨g,off,sp⟩→B g)
  | .agg l,cs=>LiesAll B w l cs
  | .row sz l,cs=>∃A c,cs=[.slice A l.length c]∧l.length≤c∧c≤maxLen∧(0<l.length→∃g off,A=some ⟨g,off,none⟩∧g<w.heap.size∧B g∧LiesRow B w g sz off l)
/-- One behind the other. -/
def LiesAll (B:Nat→Prop)(w:World):List Dt→List Value→Prop
  | [],cs=>cs=[]
  |d::ds,cs=>∃a b,cs=a++b∧Lies B w d a∧LiesAll B w ds b
/-- From this cell on, each of so many cells. -/
def LiesRow (B:Nat→Prop)(w:World)(g sz:Nat):Nat→List Dt→Prop
  |_,[]=>True
  |off,d::ds=>(∃cs:List Value,cs.length=sz∧(∀j u,cs[j]? =some u→w.cell? ⟨g,off+j,none⟩=some u)∧Lies B w d cs)∧LiesRow B w g sz (off+sz) ds
end
mutual
theorem Lies.stays {B:Nat→Prop}{w w':World}(hs:Stays B w w'): ∀(d:Dt) (cs:List Value),Lies B w d cs→Lies B w' d cs
  | .int k n,cs,h=>by unfold Lies at h⊢;exact h
  | .bool b,cs,h=>by unfold Lies at h⊢;exact h
  | .str s,cs,h=>by unfold Lies at h⊢;exact h
  | .bys xs,cs,h=>by
    unfold Lies at h⊢
    obtain⟨A,la,ca,e,h1,h2,h3,hB⟩:=h
    exact⟨A,la,ca,e,h1,h2,bys_stays hs h3 hB,hB⟩
  | .agg l,cs,h=>by unfold Lies at h⊢;exact LiesAll.stays hs l cs h
  | .row sz l,cs,h=>by
    unfold Lies at h⊢
    obtain⟨A,c,e,h1,h2,h3⟩:=h
    refine⟨A,c,e,h1,h2,fun hn=>?_⟩
    obtain⟨g,off,eA,hg,hBg,hr⟩:=h3 hn
    exact⟨g,off,eA,Nat.lt_of_lt_of_le hg hs.1,hBg,LiesRow.stays hs hg hBg l off hr⟩
theorem LiesAll.stays {B:Nat→Prop}{w w':World}(hs:Stays B w w'): ∀(l:List Dt) (cs:List Value),LiesAll B w l cs→LiesAll B w' l cs
  | [],cs,h=>by unfold LiesAll at h⊢;exact h
  |d::ds,cs,h=>by
   unfold LiesAll at h⊢
   obtain⟨a,b,e,h1,h2⟩:=h
   exact⟨a,b,e,Lies.stays hs d a h1,LiesAll.stays hs ds b h2⟩
theorem LiesRow.stays {B:Nat→Prop}{w w':World}(hs:Stays B w w'){g sz:Nat}(hg:g<w.heap.size)(hB:B g): ∀(l:List Dt) (off:Nat),LiesRow B w g sz off l→LiesRow B w' g sz off l
  | [],off,h=>by unfold LiesRow;trivial
  |d::ds,off,h=>by
   unfold LiesRow at h⊢
   obtain⟨⟨cs,h0,h1,h2⟩,h3⟩:=h
   exact⟨⟨cs,h0,fun j u hu=>(hs.2 ⟨g,off+j,none⟩ hB hg).trans (h1 j u hu),Lies.stays hs d cs h2⟩,LiesRow.stays hs hg hB ds (off+sz) h3⟩
end
theorem Lies.below {B:Nat→Prop}{w w':World}(hb:Below w.heap.size w w'){d:Dt}{cs:List Value}(h:Lies B w d cs):Lies B w' d cs:=Lies.stays (stays_below hb B) d cs h
mutual
theorem Lies.mono {B B':Nat→Prop}{w:World}(hB: ∀g,B g→B' g): ∀(d:Dt) (cs:List Value),Lies B w d cs→Lies B' w d cs
  | .int k n,cs,h=>by unfold Lies at h⊢;exact h
  | .bool b,cs,h=>by unfold Lies at h⊢;exact h
  | .str s,cs,h=>by unfold Lies at h⊢;exact h
  | .bys xs,cs,h=>by
    unfold Lies at h⊢
    obtain⟨A,la,ca,e,h1,h2,h3,h4⟩:=h
    exact⟨A,la,ca,e,h1,h2,h3,fun hl g off sp e=>hB _ (h4 hl g off sp e)⟩
  | .agg l,cs,h=>by unfold Lies at h⊢;exact LiesAll.mono hB l cs h
  | .row sz l,cs,h=>by
    unfold Lies at h⊢
    obtain⟨A,c,e,h1,h2,h3⟩:=h
    refine⟨A,c,e,h1,h2,fun hn=>?_⟩
    obtain⟨g,off,eA,hg,hBg,hr⟩:=h3 hn
    exact⟨g,off,eA,hg,hB _ hBg,LiesRow.mono hB l off hr⟩
theorem LiesAll.mono {B B':Nat→Prop}{w:World}(hB: ∀g,B g→B' g): ∀(l:List Dt) (cs:List Value),LiesAll B w l cs→LiesAll B' w l cs
  | [],cs,h=>by unfold LiesAll at h⊢;exact h
  |d::ds,cs,h=>by
   unfold LiesAll at h⊢
   obtain⟨a,b,e,h1,h2⟩:=h
   exact⟨a,b,e,Lies.mono hB d a h1,LiesAll.mono hB ds b h2⟩
theorem LiesRow.mono {B B':Nat→Prop}{w:World}(hB: ∀g,B g→B' g){g sz:Nat}: ∀(l:List Dt) (off:Nat),LiesRow B w g sz off l→LiesRow B' w g sz off l
  | [],off,h=>by unfold LiesRow;trivial
  |d::ds,off,h=>by
   unfold LiesRow at h⊢
   obtain⟨⟨cs,h0,h1,h2⟩,h3⟩:=h
   exact⟨⟨cs,h0,h1,Lies.mono hB d cs h2⟩,LiesRow.mono hB ds (off+sz) h3⟩
end
mutual
/-- What lies in blocks of the world itself. -/
theorem Lies.bound {B:Nat→Prop}{w:World}: ∀(d:Dt) (cs:List Value),Lies B w d cs→Lies (fun g=>B g∧g<w.heap.size) w d cs
  | .int k n,cs,h=>by unfold Lies at h⊢;exact h
  | .bool b,cs,h=>by unfold Lies at h⊢;exact h
  | .str s,cs,h=>by unfold Lies at h⊢;exact h
  | .bys xs,cs,h=>by
    unfold Lies at h⊢
    obtain⟨A,la,ca,e,h1,h2,h3,h4⟩:=h
    refine⟨A,la,ca,e,h1,h2,h3,fun hl g off sp e=>⟨h4 hl g off sp e,?_⟩⟩
    obtain⟨b',off',e',hb',_⟩:=h3.2.2 hl
    rw[e'] at e;cases e;exact hb'
  | .agg l,cs,h=>by unfold Lies at h⊢;exact LiesAll.bound l cs h
  | .row sz l,cs,h=>by
    unfold Lies at h⊢
    obtain⟨A,c,e,h1,h2,h3⟩:=h
    refine⟨A,c,e,h1,h2,fun hn=>?_⟩
    obtain⟨g,off,eA,hg,hBg,hr⟩:=h3 hn
    exact⟨g,off,eA,hg,⟨hBg,hg⟩,LiesRow.bound l off hr⟩
theorem LiesAll.bound {B:Nat→Prop}{w:World}: ∀(l:List Dt) (cs:List Value),LiesAll B w l cs→LiesAll (fun g=>B g∧g<w.heap.size) w l cs
  | [],cs,h=>by unfold LiesAll at h⊢;exact h
  |d::ds,cs,h=>by
   unfold LiesAll at h⊢
   obtain⟨a,b,e,h1,h2⟩:=h
   exact⟨a,b,e,Lies.bound d a h1,LiesAll.bound ds b h2⟩
theorem LiesRow.bound {B:Nat→Prop}{w:World}{g sz:Nat}: ∀(l:List Dt) (off:Nat),LiesRow B w g sz off l→LiesRow (fun g=>B g∧g<w.heap.size) w g sz off l
  | [],off,h=>by unfold LiesRow;trivial
  |d::ds,off,h=>by
   unfold LiesRow at h⊢
   obtain⟨⟨cs,h0,h1,h2⟩,h3⟩:=h
   exact⟨⟨cs,h0,h1,Lies.bound d cs h2⟩,LiesRow.bound ds (off+sz) h3⟩
end
theorem LiesRow.of {B:Nat→Prop}{w:World}{g sz:Nat}: ∀{l:List Dt} {off:Nat},(∀(i:Nat) (hi:i<l.length),∃cs:List Value,cs.length=sz∧(∀j u,cs[j]? =some u→w.cell? ⟨g,off+i*sz+j,none⟩=some u)∧Lies B w l[i] cs)→LiesRow B w g sz off l
  | [],_,_=>by unfold LiesRow;trivial
  |d::ds,off,h=>by
   unfold LiesRow
   refine⟨?_,LiesRow.of fun i hi=>?_⟩
   · obtain⟨cs,h0,h1,h2⟩:=h 0 (by simp)
     exact⟨cs,h0,fun j u hu=>by have:=h1 j u hu;simpa using this,h2⟩
   · obtain⟨cs,h0,h1,h2⟩:=h (i+1) (by simpa using hi)
     refine⟨cs,h0,fun j u hu=>?_,h2⟩
     have:=h1 j u hu
     rwa[show off+ (i+1)*sz+j=off+sz+i*sz+j by rw[Nat.succ_mul];omega] at this
theorem LiesRow.at {B:Nat→Prop}{w:World}{g sz:Nat}: ∀{l:List Dt} {off:Nat},LiesRow B w g sz off l→∀(i:Nat) (hi:i<l.length),∃cs:List Value,cs.length=sz∧(∀j u,cs[j]? =some u→w.cell? ⟨g,off+i*sz+j,none⟩=some u)∧Lies B w l[i] cs
  | [],_,_,_,hi=>absurd hi (by simp)
  |d::ds,off,h,0,_=>by
   unfold LiesRow at h
   obtain⟨⟨cs,h0,h1,h2⟩,_⟩:=h
   exact⟨cs,h0,fun j u hu=>by simpa using h1 j u hu,h2⟩
  |d::ds,off,h,i+1,hi=>by
   unfold LiesRow at h
   obtain⟨cs,h0,h1,h2⟩:=LiesRow.at h.2 i (by simpa using hi)
   refine⟨cs,h0,fun j u hu=>?_,h2⟩
   rw[show off+ (i+1)*sz+j=off+sz+i*sz+j by rw[Nat.succ_mul];omega]
   exact h1 j u hu
/-! ### Shapes, and how an argument is opened -/
inductive Sh where
  |int (k:IntKind)
  |bool
  |str
  |bys
  |agg (l:List Sh)
  |row (s:Sh)
mutual
def Sh.sz:Sh→Nat
  | .agg l=>szs l
  | .int _=>1
  | .bool=>1
  | .str=>1
  | .bys=>1
  | .row _=>1
def szs:List Sh→Nat
  | []=>0
  |s::ss=>s.sz+szs ss
end
mutual
/-- The data have that shape. -/
def IsSh:Sh→Dt→Prop
  | .int k,d=>∃n,d=.int k n
  | .bool,d=>∃b,d=.bool b
  | .str,d=>∃s,d=.str s
  | .bys,d=>∃xs,d=.bys xs
  | .agg l,d=>∃ds,d=.agg ds∧IsShs l ds
  | .row s,d=>∃ds,d=.row s.sz ds∧∀x∈ds,IsSh s x
def IsShs:List Sh→List Dt→Prop
  | [],[]=>True
  |s::ss,d::ds=>IsSh s d∧IsShs ss ds
  | [],_::_=>False
  |_::_,[]=>False
end
mutual
/-- A type of the program's has that shape. -/
def Fits (P:Program):Sh→TypeId→Prop
  | .int k,T=>P.underlying T=some (.int k)∧P.cellsOf T=1
  | .bool,T=>P.underlying T=some .bool∧P.cellsOf T=1
  | .str,T=>P.underlying T=some .string∧P.cellsOf T=1
  | .bys,T=>∃U,P.underlying T=some (.slice U)∧P.underlying U=some (.int .u8)∧P.cellsOf U=1∧P.bytesOf U=1∧P.cellsOf T=1
  | .agg l,T=>∃fs:Array Field,P.underlying T=some (.struct fs)∧P.cellsOf T=szs l∧FitsAll P 0 l fs.toList
  | .row s,T=>∃U,P.underlying T=some (.slice U)∧Fits P s U∧P.cellsOf T=1∧0<s.sz
def FitsAll (P:Program):Nat→List Sh→List Field→Prop
  |_,[],[]=>True
  |off,s::ss,f::fs=>f.offset=off∧Fits P s f.type∧FitsAll P (off+s.sz) ss fs
  |_,[],_::_=>False
  |_,_::_,[]=>False
end
section
variable {P:Program} {T:TypeId}
theorem Fits.cells: ∀{s:Sh},Fits P s T→P.cellsOf T=s.sz
  | .int k,h=>by unfold Fits at h;unfold Sh.sz;exact h.2
  | .bool,h=>by unfold Fits at h;unfold Sh.sz;exact h.2
  | .str,h=>by unfold Fits at h;unfold Sh.sz;exact h.2
  | .bys,h=>by unfold Fits at h;unfold Sh.sz;obtain⟨_,_,_,_,_,h⟩:=h;exact h
  | .agg l,h=>by unfold Fits at h;unfold Sh.sz;obtain⟨_,_,h,_⟩:=h;exact h
  | .row s,h=>by unfold Fits at h;unfold Sh.sz;obtain⟨_,_,_,h,_⟩:=h;exact h
end
end Go.Proofs.Ytclmaglkekkigaa.dtc
namespace Go.Proofs.Ytclmaglkekkigaa.dtc
open Go.ChangeShapes Go.WideShapes Go.ChangeAt Go.RowKit Go.Proofs.Ytclmaglkekkigaa.tlvc Go.Proofs.Ytclmaglkekkigaa.ndc
set_option linter.unusedVariables false
section
variable {H:Type} {enc:TypeId × Value→H} {P:Program} {W:World} {held:Bool}
def AllFit (l:List Nat):Prop:=l.all (· ≤reachBytes)=true
theorem AllFit.right {a b:List Nat}(h:AllFit (a++b)):AllFit b:=by unfold AllFit at*;rw[List.all_append,Bool.and_eq_true] at h;exact h.2
end
end Go.Proofs.Ytclmaglkekkigaa.dtc
