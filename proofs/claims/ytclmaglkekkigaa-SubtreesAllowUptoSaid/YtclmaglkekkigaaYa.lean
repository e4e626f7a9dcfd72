/- Lists in memory whose elements take several cells and lead elsewhere: how they lie, and how they grow. Nothing here names the program. Names and principals as lists in memory; nodes as such; how they come in as arguments. Nothing here names the program. Names and principals: what is right, and whose node is which; plain facts on what Check tells of their leaves. -/
import Derived.Test.YtclmaglkekkigaaKa
import Derived.Test.YtclmaglkekkigaaKb
import Derived.Laws.IdiomStrings
import Derived.Test.YtclmaglkekkigaaNd
namespace Go.Proofs.Ytclmaglkekkigaa.nmc
open Go.RowKit Go.Proofs.Ytclmaglkekkigaa.tlvc Go.Proofs.Ytclmaglkekkigaa.ndc
set_option linter.unusedVariables false
/-- How an element lies in memory. -/
structure El (α:Type) where
  sz:Nat
  hold:(Nat→Prop)→World→α→List Value→Prop
  stays: ∀{S:Nat→Prop} {w w':World} {x:α} {cs:List Value},Stays S w w'→hold S w x cs→hold S w' x cs
  mono: ∀{S S':Nat→Prop} {w:World} {x:α} {cs:List Value},(∀g,S g→S' g)→hold S w x cs→hold S' w x cs
  bound: ∀{S:Nat→Prop} {w:World} {x:α} {cs:List Value},hold S w x cs→hold (fun g=>S g∧g<w.heap.size) w x cs
  len: ∀{S:Nat→Prop} {w:World} {x:α} {cs:List Value},hold S w x cs→cs.length=sz
  one: ∀{S:Nat→Prop} {w:World} {x:α} {cs:List Value},hold S w x cs→∀u∈cs,u.oneCell'=true
  pos:0<sz
variable {α:Type} {E:El α}
theorem El.on (E:El α){S S':Nat→Prop}{w w':World}{x:α}{cs:List Value}(h:E.hold S w x cs)(hs:w.heap.size≤w'.heap.size)(hk: ∀g,S g→g<w.heap.size→w'.heap[g]? =w.heap[g]?)(hS: ∀g,S g→g<w.heap.size→S' g):E.hold S' w' x cs:=
  E.mono (fun g hg=>hS g hg.1 hg.2) (E.stays (S:=fun g=>S g∧g<w.heap.size) ⟨hs,fun p hp hl=>World.cell?_of_block (hk p.block hp.1 hl)⟩ (E.bound h))
/-- One behind the other. -/
def All (E:El α)(S:Nat→Prop)(w:World):List α→List Value→Prop
  | [],cs=>cs=[]
  |x::xs,cs=>∃a r,cs=a++r∧E.hold S w x a∧All E S w xs r
theorem All.on {S S':Nat→Prop}{w w':World}(hs:w.heap.size≤w'.heap.size)(hk: ∀g,S g→g<w.heap.size→w'.heap[g]? =w.heap[g]?)(hS: ∀g,S g→g<w.heap.size→S' g): ∀{xs:List α} {cs:List Value},All E S w xs cs→All E S' w' xs cs
  | [],_,h=>h
  |x::xs,_,⟨a,r,e,h1,h2⟩=>⟨a,r,e,E.on h1 hs hk hS,All.on hs hk hS h2⟩
theorem All.app {S:Nat→Prop}{w:World}{ys:List α}{ds:List Value}(hy:All E S w ys ds): ∀{xs:List α} {cs:List Value},All E S w xs cs→All E S w (xs++ys) (cs++ds)
  | [],cs,h=>by
    have h:cs=[]:=h
    subst h
    exact hy
  |x::xs,_,⟨a,r,e,h1,h2⟩=>⟨a,r++ds,by rw[e,List.append_assoc],h1,All.app hy h2⟩
theorem All.one_ {S:Nat→Prop}{w:World}{x:α}{cs:List Value}(h:E.hold S w x cs):All E S w [x] cs:=⟨cs,[],(List.append_nil _).symm,h,rfl⟩
theorem All.len {S:Nat→Prop}{w:World}: ∀{xs:List α} {cs:List Value},All E S w xs cs→cs.length=xs.length*E.sz
  | [],_,h=>by have h:_=[]:=h;subst h;simp
  |x::xs,_,⟨a,r,e,h1,h2⟩=>by rw[e,List.length_append,E.len h1,All.len h2,List.length_cons,Nat.succ_mul];omega
theorem All.cells {S:Nat→Prop}{w:World}: ∀{xs:List α} {cs:List Value},All E S w xs cs→∀u∈cs,u.oneCell'=true
  | [],_,h=>by have h:_=[]:=h;subst h;intro u hu;simp at hu
  |x::xs,_,⟨a,r,e,h1,h2⟩=>by
   subst e
   intro u hu
   rcases List.mem_append.1 hu with hu |hu
   · exact E.one h1 u hu
   · exact All.cells h2 u hu
theorem All.at {S:Nat→Prop}{w:World}: ∀{xs:List α} {cs:List Value},All E S w xs cs→∀(i:Nat) (hi:i<xs.length),∃a,E.hold S w xs[i] a∧∀j u,a[j]? =some u→cs[i*E.sz+j]? =some u
  | [],_,_,i,hi=>absurd hi (by simp)
  |x::xs,_,⟨a,r,e,h1,h2⟩,0,_=>by
   subst e
   refine⟨a,h1,fun j u hu=>?_⟩
   rw[Nat.zero_mul,Nat.zero_add,List.getElem?_append_left (List.getElem?_eq_some_iff.1 hu).1]
   exact hu
  |x::xs,_,⟨a,r,e,h1,h2⟩,i+1,hi=>by
   subst e
   obtain⟨b,k1,k2⟩:=All.at h2 i (by simpa using hi)
   refine⟨b,k1,fun j u hu=>?_⟩
   rw[List.getElem?_append_right (by rw[E.len h1,Nat.succ_mul];omega),E.len h1,show(i+1)*E.sz+j - E.sz=i*E.sz+j by rw[Nat.succ_mul];omega]
   exact k2 j u hu
/-- A list in memory: in blocks of B. -/
def Lst (E:El α)(B:Nat→Prop)(w:World)(A:Option Addr)(xs:List α):Prop:=
  0<xs.length→∃g off,A=some ⟨g,off,none⟩∧g<w.heap.size∧B g∧∀(i:Nat) (hi:i<xs.length),∃cs,(∀j u,cs[j]? =some u→w.cell? ⟨g,off+i*E.sz+j,none⟩=some u)∧E.hold B w xs[i] cs
theorem Lst.nil (B:Nat→Prop)(w:World)(A:Option Addr):Lst E B w A []:=fun h=>absurd h (by simp)
theorem Lst.on {S S':Nat→Prop}{w w':World}{A:Option Addr}{xs:List α}(h:Lst E S w A xs)(hs:w.heap.size≤w'.heap.size)(hk: ∀g,S g→g<w.heap.size→w'.heap[g]? =w.heap[g]?)(hS: ∀g,S g→g<w.heap.size→S' g):Lst E S' w' A xs:=fun hn=>by
  obtain⟨g,off,e,hg,hB,hc⟩:=h hn
  refine⟨g,off,e,Nat.lt_of_lt_of_le hg hs,hS g hB hg,fun i hi=>?_⟩
  obtain⟨cs,h1,h2⟩:=hc i hi
  exact⟨cs,fun j u hu=>(World.cell?_of_block (hk g hB hg)).trans (h1 j u hu),E.on h2 hs hk hS⟩
theorem Lst.below {S:Nat→Prop}{w w':World}{A:Option Addr}{xs:List α}(h:Lst E S w A xs)(hb:Below w.heap.size w w'):Lst E S w' A xs:=h.on hb.size (fun g _ hg=>hb.block g hg) (fun g h _=>h)
theorem Lst.mono {S S':Nat→Prop}{w:World}{A:Option Addr}{xs:List α}(h:Lst E S w A xs)(hS: ∀g,S g→S' g):Lst E S' w A xs:=h.on (Nat.le_refl _) (fun _ _ _=>rfl) (fun g h _=>hS g h)
theorem Lst.bound {S:Nat→Prop}{w:World}{A:Option Addr}{xs:List α}(h:Lst E S w A xs):Lst E (fun g=>g<w.heap.size) w A xs:=h.on (Nat.le_refl _) (fun _ _ _=>rfl) (fun g _ hg=>hg)
theorem Lst.take {S:Nat→Prop}{w:World}{A:Option Addr}{xs:List α}(h:Lst E S w A xs)(k:Nat):Lst E S w A (xs.take k):=fun hn=>by
  have hl:(xs.take k).length≤xs.length:=by rw[List.length_take];omega
  obtain⟨g,off,e,hg,hB,hc⟩:=h (by omega)
  refine⟨g,off,e,hg,hB,fun i hi=>?_⟩
  obtain⟨cs,h1,h2⟩:=hc i (by omega)
  exact⟨cs,h1,by rw[List.getElem_take];exact h2⟩
theorem Lst.at {S:Nat→Prop}{w:World}{A:Option Addr}{xs:List α}(h:Lst E S w A xs)(i:Nat)(hi:i<xs.length): ∃g off cs,A=some ⟨g,off,none⟩∧g<w.heap.size∧(∀j u,cs[j]? =some u→w.cell? ⟨g,off+i*E.sz+j,none⟩=some u)∧E.hold S w xs[i] cs:=by
  obtain⟨g,off,e,hg,_,hc⟩:=h (by omega)
  obtain⟨cs,h1,h2⟩:=hc i hi
  exact⟨g,off,cs,e,hg,h1,h2⟩
theorem flat_cells {w:World}{S:Nat→Prop}{g off:Nat}: ∀(xs:List α),(∀(i:Nat) (hi:i<xs.length),∃cs,(∀j u,cs[j]? =some u→w.cell? ⟨g,off+i*E.sz+j,none⟩=some u)∧E.hold S w xs[i] cs)→
    ∃cs,All E S w xs cs∧∀j u,cs[j]? =some u→w.cell? ⟨g,off+j,none⟩=some u
  | [],_=>⟨[],rfl,fun j u hu=>by simp at hu⟩
  |xs0::xs,h=>by
   obtain⟨a,h1,h2⟩:=h 0 (by simp)
   have ih:=flat_cells (w:=w) (S:=S) (g:=g) (off:=off+E.sz) xs (fun i hi=>by
     obtain⟨cs,k1,k2⟩:=h (i+1) (by simpa using hi)
     exact⟨cs,fun j u hu=>by have:=k1 j u hu;rwa[show off+ (i+1)*E.sz+j=off+E.sz+i*E.sz+j by rw[Nat.succ_mul];omega] at this,k2⟩)
   obtain⟨r,k1,k2⟩:=ih
   refine⟨a++r,⟨a,r,rfl,h2,k1⟩,fun j u hu=>?_⟩
   by_cases hj:j<a.length
   · rw[List.getElem?_append_left hj] at hu
     have:=h1 j u hu
     rwa[Nat.zero_mul,Nat.add_zero] at this
   · rw[List.getElem?_append_right (by omega)] at hu
     have:=k2 _ u hu
     rw[E.len h2] at this hj
     rwa[show off+E.sz+ (j - E.sz)=off+j by omega] at this
/-- The blocks that a growing list's elements may lie in. -/
def Fr (Y:Nat→Prop)(n:Nat)(own:Option Nat)(g:Nat):Prop:=Y g∧g<n∧some g≠own
/-- A list of the call's own, that grows. -/
def GRow (E:El α)(e:TypeId)(base:Nat)(Y:Nat→Prop)(w:World)(v:Value)(xs:List α):Prop:=
  ∃cs,w.ownsRow base e E.sz v xs.length cs∧All E (Fr Y w.heap.size v.ownBlock) w xs cs
variable {e:TypeId} {base:Nat} {Y:Nat→Prop} {w w':World} {v:Value} {xs:List α}
theorem GRow.nil:GRow E e base Y w (.slice none 0 0) []:=⟨[],World.ownsRow_nil _ _ _ _,rfl⟩
theorem GRow.keep (hY: ∀g,base≤g→Y g)(h:GRow E e base Y w v xs)(hs:w.heap.size≤w'.heap.size)(hk: ∀g,g<w.heap.size→Y g→w'.heap[g]? =w.heap[g]?):GRow E e base Y w' v xs:=by
  obtain⟨cs,ho,ha⟩:=h
  refine⟨cs,⟨ho.1,?_⟩,ha.on hs (fun g hg hl=>hk g hl hg.1) (fun g hg hl=>⟨hg.1,by omega,hg.2.2⟩)⟩
  rcases ho.2 with hh | ⟨g,cap,cur,e1,hbg,hg,r⟩
  · exact .inl hh
  · exact .inr ⟨g,cap,cur,e1,hbg,(hk g (Array.getElem?_eq_some_iff.1 hg).1 (hY g hbg)).trans hg,r⟩
theorem GRow.below (hY: ∀g,base≤g→Y g)(h:GRow E e base Y w v xs)(hb:Below w.heap.size w w'):GRow E e base Y w' v xs:=h.keep hY hb.size (fun g hg _=>hb.block g hg)
theorem GRow.shape (h:GRow E e base Y w v xs): ∃A c,v=.slice A xs.length c∧xs.length≤c∧c≤maxLen:=by
  obtain⟨cs,ho,_⟩:=h
  rcases ho.2 with ⟨rfl,h0⟩ | ⟨g,cap,cur,e1,hbg,hg,h1,h2,_⟩
  · exact⟨none,0,by rw[h0],by omega,Nat.zero_le _⟩
  · exact⟨_,cap,e1,h1,h2⟩
theorem GRow.lst (hY: ∀g,base≤g→Y g)(h:GRow E e base Y w v xs): ∃A c,v=.slice A xs.length c∧xs.length≤c∧c≤maxLen∧Lst E Y w A xs:=by
  obtain⟨cs,ho,ha⟩:=h
  have hcells:=ho
  rcases ho.2 with ⟨rfl,h0⟩ | ⟨g,cap,cur,e1,hbg,hg,h1,h2,_⟩
  · exact⟨none,0,by rw[h0],by omega,Nat.zero_le _,fun hn=>by omega⟩
  · refine⟨_,cap,e1,h1,h2,fun hn=>⟨g,0,rfl,(Array.getElem?_eq_some_iff.1 hg).1,hY g hbg,fun i hi=>?_⟩⟩
    obtain⟨a,k1,k2⟩:=ha.at i hi
    refine⟨a,fun j u hu=>?_,E.mono (fun g hg=>hg.1) k1⟩
    have:=hcells.cells (g:=g) (by rw[e1];rfl) (i*E.sz+j) u (k2 j u hu)
    rw[Addr.add_lit] at this
    rwa[Nat.add_assoc]
/-- What the program says of a type of lists and its elements. -/
structure Inf (P:Program) (t e:TypeId) (size bytes:Nat):Prop where
  ht:P.underlying t=some (.slice e)
  ex: ∃i z,P.info? e=some i∧i.zero=some z∧i.size=size∧i.bytes=bytes∧z.cells.size=size
theorem GRow.apps {P:Program}{t:TypeId}{bytes:Nat}(I:Inf P t e E.sz bytes)(hY: ∀g,base≤g→Y g)(h:GRow E e base Y w v xs)(ty:TypeId){A:Option Addr}{c:Nat}{ys:List α}
    (hl:Lst E (Fr Y w.heap.size v.ownBlock) w A ys) (hn:(xs.length+ys.length)*bytes≤140737488355328) (hm:xs.length+ys.length≤maxLen) (hbase:base≤w.heap.size):
    ∃v' w',(Builtin.append_ #[t,t] ty #[v,.slice A ys.length c]).run P w=.ok v' w'∧GRow E e base Y w' v' (xs++ys)∧w.grownBy w' v.ownBlock:=by
  obtain⟨cs,ho,ha⟩:=h
  obtain⟨i,z,hi,hz,hsize,hby,hzs⟩:=I.ex
  rcases A with _ |a
  · have hy:ys=[]:=by
      rcases Nat.eq_zero_or_pos ys.length with h0 |h0
      · exact List.eq_nil_of_length_eq_zero h0
      · obtain⟨_,_,h,_⟩:=hl h0;cases h
    subst hy
    refine⟨v,w,?_,⟨cs,by simpa using ho,by simpa using ha⟩,World.grownBy.refl w _⟩
    rcases ho.2 with ⟨rfl,h0⟩ | ⟨g,cap,cur,rfl,_,_,hnc,_⟩
    · simp[Builtin.append_,run_underlying I.ht,sizeOf,typeInfo,hi,Builtin.lenOf,Builtin.firstCells]
    · simp[Builtin.append_,run_underlying I.ht,sizeOf,typeInfo,hi,Builtin.lenOf,Builtin.firstCells,hnc,storeCells]
  · have hns: ∃news,All E (Fr Y w.heap.size v.ownBlock) w ys news∧∀j u,news[j]? =some u→w.cell? (a.add j)=some u:=by
      by_cases h0:0<ys.length
      · obtain⟨g,off,ea,hg,_,hc⟩:=hl h0
        cases ea
        obtain⟨news,k1,k2⟩:=flat_cells (E:=E) ys hc
        exact⟨news,k1,fun j u hu=>by rw[Addr.add_lit];exact k2 j u hu⟩
      · have hy:ys=[]:=List.eq_nil_of_length_eq_zero (by omega)
        subst hy
        exact⟨[],rfl,fun j u hu=>by simp at hu⟩
    obtain⟨news,k1,k2⟩:=hns
    obtain⟨v',w',hr,hown',hgr,_,hob⟩:=app_gen (P:=P) w base t ty e i z E.sz bytes I.ht hi hz hsize hby hzs E.pos v xs.length cs ho a ys.length c news k1.len k2 k1.cells hm hn hbase
    refine⟨v',w',hr,⟨cs++news,by rw[List.length_append];exact hown',?_⟩,hgr⟩
    refine All.on (S:=Fr Y w.heap.size v.ownBlock) hgr.size (fun g hg hl=>hgr.block g hl hg.2.2) (fun g hg hl=>⟨hg.1,Nat.lt_of_lt_of_le hl hgr.size,fun e=>?_⟩) (k1.app ha)
    rcases hob with h1 | ⟨g',h1,h2⟩
    · exact hg.2.2 (by rw[←h1];exact e)
    · rw[h1] at e;cases e;omega
/-- One element, in a box. -/
theorem GRow.app {P:Program}{t:TypeId}{bytes:Nat}(I:Inf P t e E.sz bytes)(hY: ∀g,base≤g→Y g)(h:GRow E e base Y w v xs)(ty:TypeId){g off:Nat}{c:Nat}{x:α}{news:List Value}
    (hg:Fr Y w.heap.size v.ownBlock g) (hc: ∀j u,news[j]? =some u→w.cell? ⟨g,off+j,none⟩=some u) (hx:E.hold (Fr Y w.heap.size v.ownBlock) w x news) (hn:(xs.length+1)*bytes≤140737488355328) (hm:xs.length+1≤maxLen) (hbase:base≤w.heap.size):
    ∃v' w',(Builtin.append_ #[t,t] ty #[v,.slice (some ⟨g,off,none⟩) 1 c]).run P w=.ok v' w'∧GRow E e base Y w' v' (xs++[x])∧w.grownBy w' v.ownBlock:=
  GRow.apps I hY h ty (ys:=[x]) (fun _=>⟨g,off,rfl,hg.2.1,hg,fun i hi=>by
    have hi:i=0:=by simpa using hi
    subst hi
    exact⟨news,fun j u hu=>by rw[Nat.zero_mul,Nat.add_zero];exact hc j u hu,hx⟩⟩) hn hm hbase
theorem GRow.lt (h:GRow E e base Y w v xs): ∀g,v.ownBlock=some g→base≤g∧g<w.heap.size:=by
  obtain⟨cs,ho,_⟩:=h
  exact ho.lt
end Go.Proofs.Ytclmaglkekkigaa.nmc
namespace Go.Proofs.Ytclmaglkekkigaa.nmc
open Go.RowKit Go.Proofs.Ytclmaglkekkigaa.tlvc Go.Proofs.Ytclmaglkekkigaa.ndc
set_option linter.unusedVariables false
/-! ### Kinds of elements -/
/-- A part of a name: its object, its text. -/
structure At where
  oid:List Int
  text:ByteArray
instance:Inhabited At:=⟨⟨[],⟨#[]⟩⟩⟩
theorem ins_stays {S:Nat→Prop}{w w':World}(hs:Stays S w w'){A:Option Addr}{n:Nat}{xs:List Int}(h:Ins w A n xs)(hB:0<n→∀g off sp,A=some ⟨g,off,sp⟩→S g):Ins w' A n xs:=
  ⟨h.1,h.2.1,fun hn=>by
    obtain⟨b,off,e,hb,hc⟩:=h.2.2 hn
    exact⟨b,off,e,Nat.lt_of_lt_of_le hb hs.1,fun j hj=>(hs.2 ⟨b,off+j,none⟩ (hB hn b off none e) hb).trans (hc j hj)⟩⟩
def AtC (S:Nat→Prop)(w:World)(a:At)(c0 c1:Value):Prop:=∃A la ca,c0=.slice A la ca∧c1=.string a.text∧la≤ca∧ca≤maxLen∧Ins w A la a.oid∧(0<la→∀g off sp,A=some ⟨g,off,sp⟩→S g)∧a.text.size≤maxLen
def atE:El At where
  sz:=2
  hold S w a cs:=∃c0 c1,cs=[c0,c1]∧AtC S w a c0 c1
  stays:=fun hs ⟨c0,c1,e,A,la,ca,e0,e1,h1,h2,h3,h4,h5⟩=>⟨c0,c1,e,A,la,ca,e0,e1,h1,h2,ins_stays hs h3 h4,h4,h5⟩
  mono:=fun hS ⟨c0,c1,e,A,la,ca,e0,e1,h1,h2,h3,h4,h5⟩=>⟨c0,c1,e,A,la,ca,e0,e1,h1,h2,h3,fun hl g off sp e=>hS _ (h4 hl g off sp e),h5⟩
  bound:=fun⟨c0,c1,e,A,la,ca,e0,e1,h1,h2,h3,h4,h5⟩=>⟨c0,c1,e,A,la,ca,e0,e1,h1,h2,h3,fun hl g off sp e=>⟨h4 hl g off sp e,by
    obtain⟨b',off',e',hb',_⟩:=h3.2.2 hl
    rw[e'] at e;cases e;exact hb'⟩,h5⟩
  len:=fun⟨c0,c1,e,_⟩=>by rw[e];rfl
  one:=fun⟨c0,c1,e,A,la,ca,e0,e1,_⟩ u hu=>by
    subst e e0 e1
    simp at hu
    rcases hu with rfl |rfl<;>rfl
  pos:=by decide
def stE:El ByteArray where
  sz:=1
  hold S w s cs:=cs=[.string s]∧s.size≤maxLen
  stays:=fun _ h=>h
  mono:=fun _ h=>h
  bound:=fun h=>h
  len:=fun⟨e,_⟩=>by rw[e];rfl
  one:=fun⟨e,_⟩ u hu=>by
    subst e
    simp at hu
    subst hu;rfl
  pos:=by decide
open Go.Proofs.Ytclmaglkekkigaa.dtc
theorem ints_of {w:World}: ∀(l:List Dt),(∀x∈l,IsSh (.int .i64) x)→∃xs:List Int,xs.length=l.length∧∀(g sz off:Nat),LiesRow (fun _=>True) w g sz off l→sz=1→Fit8 xs∧∀j,j<xs.length→w.cell? ⟨g,off+j,none⟩=some (.int .i64 (xs.getD j 0))
  | [],_=>⟨[],rfl,fun g sz off _ _=>⟨fun x hx=>by simp at hx,fun j hj=>by simp at hj⟩⟩
  |x::l,h=>by
   obtain⟨n,rfl⟩: ∃n,x=.int .i64 n:=by have:=h x (by simp);unfold IsSh at this;exact this
   obtain⟨xs,hl,hr⟩:=ints_of (w:=w) l (fun y hy=>h y (by simp[hy]))
   refine⟨n::xs,by simp[hl],fun g sz off hL hz=>?_⟩
   subst hz
   unfold LiesRow at hL
   obtain⟨⟨cs,h0,h1,h2⟩,h3⟩:=hL
   unfold Lies at h2
   obtain⟨rfl,hw⟩:=h2
   obtain⟨k1,k2⟩:=hr g 1 (off+1) h3 rfl
   refine⟨fun y hy=>?_,fun j hj=>?_⟩
   · rcases List.mem_cons.1 hy with rfl |hy
     · have:=bounds_i64 hw;omega
     · exact k1 y hy
   · match j,hj with
     |0,_=>simpa using h1 0 _ rfl
     |j+1,hj=>
      have:=k2 j (by simpa using hj)
      rw[show off+ (j+1)=off+1+j by omega]
      simpa using this
theorem ins_of {w:World}{l:List Dt}{A:Option Addr}{c:Nat}(hs: ∀x∈l,IsSh (.int .i64) x)(hr:0<l.length→∃g off,A=some ⟨g,off,none⟩∧g<w.heap.size∧True∧LiesRow (fun _=>True) w g 1 off l): ∃xs,Ins w A l.length xs:=by
  obtain⟨xs,hl,h⟩:=ints_of (w:=w) l hs
  by_cases h0:0<l.length
  · obtain⟨g,off,e,hg,_,hL⟩:=hr h0
    obtain⟨k1,k2⟩:=h g 1 off hL rfl
    exact⟨xs,hl,k1,fun _=>⟨g,off,e,hg,fun j hj=>k2 j (by omega)⟩⟩
  · have:xs=[]:=List.eq_nil_of_length_eq_zero (by omega)
    subst this
    exact⟨[],hl,fun x hx=>by simp at hx,fun hn=>absurd hn h0⟩
/-- The shape of a part of a name. -/
def atS:Sh:=.agg [.row (.int .i64),.str]
end Go.Proofs.Ytclmaglkekkigaa.nmc
