/- Lists in memory whose elements take several cells and lead e -/
import Derived.Test.YtkjkhoglkpepiaaGreatDoorKa
import Derived.Test.YtkjkhoglkpepiaaGreatDoorKb
import Derived.Laws.IdiomStrings
import Derived.Test.YtkjkhoglkpepiaaGreatDoorNd
set_option linter.unusedVariables false
set_option linter.unusedSimpArgs false
namespace Go.Proofs.YtkjkhoglkpepiaaGreatDoor.nmc
open Go.RowKit tlvc ndc
structure El (α:Type) where
 sz:Nat
 hold:(Nat→Prop)→World→α→List Value→Prop
 stays: ∀{S:Nat→Prop} {w w':World} {x:α} {cs:List Value},Stays S w w'→hold S w x cs→hold S w' x cs
 mono: ∀{S S':Nat→Prop} {w:World} {x:α} {cs:List Value},(∀g,S g→S' g)→hold S w x cs→hold S' w x cs
 bound: ∀{S:Nat→Prop} {w:World} {x:α} {cs:List Value},hold S w x cs→hold (fun g=>S g∧g<w.heap.size) w x cs
 len: ∀{S:Nat→Prop} {w:World} {x:α} {cs:List Value},hold S w x cs→cs.length=sz
 one: ∀{S:Nat→Prop} {w:World} {x:α} {cs:List Value},hold S w x cs→∀u∈cs,u.oneCell'=true
 pos:0<sz
variable {α:Type} {E:El α}
theorem El.on (E:El α){S S':Nat→Prop}{w w':World}{x:α}{cs:List Value}(h:E.hold S w x cs)(hs:w.heap.size≤w'.heap.size)(hk: ∀g,S g→g<w.heap.size→w'.heap[g]? =w.heap[g]?)(hS: ∀g,S g→g<w.heap.size→S' g):E.hold S' w' x cs:=
 E.mono (fun g hg=>hS g hg.1 hg.2) (E.stays (S:=fun g=>S g∧g<w.heap.size) ⟨hs,fun p hp hl=>World.cell?_of_block (hk p.block hp.1 hl)⟩ (E.bound h))
def All (E:El α)(S:Nat→Prop)(w:World):List α→List Value→Prop
 | [],cs=>cs=[]
 |x::xs,cs=>∃a r,cs=a++r∧E.hold S w x a∧All E S w xs r
theorem All.on {S S':Nat→Prop}{w w':World}(hs:w.heap.size≤w'.heap.size)(hk: ∀g,S g→g<w.heap.size→w'.heap[g]? =w.heap[g]?)(hS: ∀g,S g→g<w.heap.size→S' g): ∀{xs:List α} {cs:List Value},All E S w xs cs→All E S' w' xs cs
 | [],_,h=>h
 |x::xs,_,⟨a,r,e,h1,h2⟩=>⟨a,r,e,E.on h1 hs hk hS,All.on hs hk hS h2⟩
theorem All.app {S:Nat→Prop}{w:World}{ys:List α}{ds:List Value}(hy:All E S w ys ds): ∀{xs:List α} {cs:List Value},All E S w xs cs→All E S w (xs++ys) (cs++ds)
 | [],cs,h=>by
  have h:cs=[]:=h
  subst h
  exact hy
 |x::xs,_,⟨a,r,e,h1,h2⟩=>⟨a,r++ds,by rw[e,List.append_assoc],h1,All.app hy h2⟩
theorem All.one_ {S:Nat→Prop}{w:World}{x:α}{cs:List Value}(h:E.hold S w x cs):All E S w [x] cs:=⟨cs,[],(List.append_nil _).symm,h,rfl⟩
theorem All.len {S:Nat→Prop}{w:World}: ∀{xs:List α} {cs:List Value},All E S w xs cs→cs.length=xs.length*E.sz
 | [],_,h=>by have h:_=[]:=h;subst h;simp
 |x::xs,_,⟨a,r,e,h1,h2⟩=>by rw[e,List.length_append,E.len h1,All.len h2,List.length_cons,Nat.succ_mul];omega
theorem All.cells {S:Nat→Prop}{w:World}: ∀{xs:List α} {cs:List Value},All E S w xs cs→∀u∈cs,u.oneCell'=true
 | [],_,h=>by have h:_=[]:=h;subst h;intro u hu;simp at hu
 |x::xs,_,⟨a,r,e,h1,h2⟩=>by
  subst e
  intro u hu
  rcases List.mem_append.1 hu with hu |hu
  ·exact E.one h1 u hu
  ·exact All.cells h2 u hu
theorem All.at {S:Nat→Prop}{w:World}: ∀{xs:List α} {cs:List Value},All E S w xs cs→∀(i:Nat) (hi:i<xs.length),∃a,E.hold S w xs[i] a∧∀j u,a[j]? =some u→cs[i*E.sz+j]? =some u
 | [],_,_,i,hi=>absurd hi (by simp)
 |x::xs,_,⟨a,r,e,h1,h2⟩,0,_=>by
  subst e
  refine⟨a,h1,fun j u hu=>?_⟩
  rw[Nat.zero_mul,Nat.zero_add,List.getElem?_append_left (List.getElem?_eq_some_iff.1 hu).1]
  exact hu
 |x::xs,_,⟨a,r,e,h1,h2⟩,i+1,hi=>by
  subst e
  obtain⟨b,k1,k2⟩:=All.at h2 i (by simpa using hi)
  refine⟨b,k1,fun j u hu=>?_⟩
  rw[List.getElem?_append_right (by rw[E.len h1,Nat.succ_mul];omega),E.len h1,show(i+1)*E.sz+j - E.sz=i*E.sz+j by rw[Nat.succ_mul];omega]
  exact k2 j u hu
def Lst (E:El α)(B:Nat→Prop)(w:World)(A:Option Addr)(xs:List α):Prop:=
 0<xs.length→∃g off,A=some ⟨g,off,none⟩∧g<w.heap.size∧B g∧∀(i:Nat) (hi:i<xs.length),∃cs,(∀j u,cs[j]? =some u→w.cell? ⟨g,off+i*E.sz+j,none⟩=some u)∧E.hold B w xs[i] cs
theorem Lst.nil (B:Nat→Prop)(w:World)(A:Option Addr):Lst E B w A []:=fun h=>absurd h (by simp)
theorem Lst.on {S S':Nat→Prop}{w w':World}{A:Option Addr}{xs:List α}(h:Lst E S w A xs)(hs:w.heap.size≤w'.heap.size)(hk: ∀g,S g→g<w.heap.size→w'.heap[g]? =w.heap[g]?)(hS: ∀g,S g→g<w.heap.size→S' g):Lst E S' w' A xs:=fun hn=>by
 obtain⟨g,off,e,hg,hB,hc⟩:=h hn
 refine⟨g,off,e,Nat.lt_of_lt_of_le hg hs,hS g hB hg,fun i hi=>?_⟩
 obtain⟨cs,h1,h2⟩:=hc i hi
 exact⟨cs,fun j u hu=>(World.cell?_of_block (hk g hB hg)).trans (h1 j u hu),E.on h2 hs hk hS⟩
theorem Lst.below {S:Nat→Prop}{w w':World}{A:Option Addr}{xs:List α}(h:Lst E S w A xs)(hb:Below w.heap.size w w'):Lst E S w' A xs:=h.on hb.size (fun g _ hg=>hb.block g hg) (fun g h _=>h)
theorem Lst.mono {S S':Nat→Prop}{w:World}{A:Option Addr}{xs:List α}(h:Lst E S w A xs)(hS: ∀g,S g→S' g):Lst E S' w A xs:=h.on (lr_ _) (fun _ _ _=>rfl) (fun g h _=>hS g h)
theorem Lst.bound {S:Nat→Prop}{w:World}{A:Option Addr}{xs:List α}(h:Lst E S w A xs):Lst E (fun g=>g<w.heap.size) w A xs:=h.on (lr_ _) (fun _ _ _=>rfl) (fun g _ hg=>hg)
theorem Lst.take {S:Nat→Prop}{w:World}{A:Option Addr}{xs:List α}(h:Lst E S w A xs)(k:Nat):Lst E S w A (xs.take k):=fun hn=>by
 have hl:(xs.take k).length≤xs.length:=by rw[List.length_take];omega
 obtain⟨g,off,e,hg,hB,hc⟩:=h (by omega)
 refine⟨g,off,e,hg,hB,fun i hi=>?_⟩
 obtain⟨cs,h1,h2⟩:=hc i (by omega)
 exact⟨cs,h1,by rw[List.getElem_take];exact h2⟩
theorem Lst.at {S:Nat→Prop}{w:World}{A:Option Addr}{xs:List α}(h:Lst E S w A xs)(i:Nat)(hi:i<xs.length): ∃g off cs,A=some ⟨g,off,none⟩∧g<w.heap.size∧(∀j u,cs[j]? =some u→w.cell? ⟨g,off+i*E.sz+j,none⟩=some u)∧E.hold S w xs[i] cs:=by
 obtain⟨g,off,e,hg,_,hc⟩:=h (by omega)
 obtain⟨cs,h1,h2⟩:=hc i hi
 exact⟨g,off,cs,e,hg,h1,h2⟩
theorem flat_cells {w:World}{S:Nat→Prop}{g off:Nat}: ∀(xs:List α),(∀(i:Nat) (hi:i<xs.length),∃cs,(∀j u,cs[j]? =some u→w.cell? ⟨g,off+i*E.sz+j,none⟩=some u)∧E.hold S w xs[i] cs)→
 ∃cs,All E S w xs cs∧∀j u,cs[j]? =some u→w.cell? ⟨g,off+j,none⟩=some u
 | [],_=>⟨[],rfl,fun j u hu=>by simp at hu⟩
 |xs0::xs,h=>by
  obtain⟨a,h1,h2⟩:=h 0 (by simp)
  have ih:=flat_cells (w:=w) (S:=S) (g:=g) (off:=off+E.sz) xs (fun i hi=>by
   obtain⟨cs,k1,k2⟩:=h (i+1) (by simpa using hi)
   exact⟨cs,fun j u hu=>by have:=k1 j u hu;rwa[show off+ (i+1)*E.sz+j=off+E.sz+i*E.sz+j by rw[Nat.succ_mul];omega] at this,k2⟩)
  obtain⟨r,k1,k2⟩:=ih
  refine⟨a++r,⟨a,r,rfl,h2,k1⟩,fun j u hu=>?_⟩
  by_cases hj:j<a.length
  ·rw[List.getElem?_append_left hj] at hu
   have:=h1 j u hu
   rwa[Nat.zero_mul,Nat.add_zero] at this
  ·rw[List.getElem?_append_right (by omega)] at hu
   have:=k2 _ u hu
   rw[E.len h2] at this hj
   rwa[show off+E.sz+ (j - E.sz)=off+j by omega] at this
def Fr (Y:Nat→Prop)(n:Nat)(own:Option Nat)(g:Nat):Prop:=Y g∧g<n∧some g≠own
def GRow (E:El α)(e:TypeId)(base:Nat)(Y:Nat→Prop)(w:World)(v:Value)(xs:List α):Prop:=
 ∃cs,w.ownsRow base e E.sz v xs.length cs∧All E (Fr Y w.heap.size v.ownBlock) w xs cs
variable {e:TypeId} {base:Nat} {Y:Nat→Prop} {w w':World} {v:Value} {xs:List α}
theorem GRow.nil:GRow E e base Y w (.slice none 0 0) []:=⟨[],World.ownsRow_nil _ _ _ _,rfl⟩
theorem GRow.keep (hY: ∀g,base≤g→Y g)(h:GRow E e base Y w v xs)(hs:w.heap.size≤w'.heap.size)(hk: ∀g,g<w.heap.size→Y g→w'.heap[g]? =w.heap[g]?):GRow E e base Y w' v xs:=by
 obtain⟨cs,ho,ha⟩:=h
 refine⟨cs,⟨ho.1,?_⟩,ha.on hs (fun g hg hl=>hk g hl hg.1) (fun g hg hl=>⟨hg.1,by omega,hg.2.2⟩)⟩
 rcases ho.2 with hh | ⟨g,cap,cur,e1,hbg,hg,r⟩
 ·exact .inl hh
 ·exact .inr ⟨g,cap,cur,e1,hbg,(hk g (Array.getElem?_eq_some_iff.1 hg).1 (hY g hbg)).trans hg,r⟩
theorem GRow.below (hY: ∀g,base≤g→Y g)(h:GRow E e base Y w v xs)(hb:Below w.heap.size w w'):GRow E e base Y w' v xs:=h.keep hY hb.size (fun g hg _=>hb.block g hg)
theorem GRow.shape (h:GRow E e base Y w v xs): ∃A c,v=.slice A xs.length c∧xs.length≤c∧c≤maxLen:=by
 obtain⟨cs,ho,_⟩:=h
 rcases ho.2 with ⟨rfl,h0⟩ | ⟨g,cap,cur,e1,hbg,hg,h1,h2,_⟩
 ·exact⟨none,0,by rw[h0],by omega,Nat.zero_le _⟩
 ·exact⟨_,cap,e1,h1,h2⟩
theorem GRow.lst (hY: ∀g,base≤g→Y g)(h:GRow E e base Y w v xs): ∃A c,v=.slice A xs.length c∧xs.length≤c∧c≤maxLen∧Lst E Y w A xs:=by
 obtain⟨cs,ho,ha⟩:=h
 have hcells:=ho
 rcases ho.2 with ⟨rfl,h0⟩ | ⟨g,cap,cur,e1,hbg,hg,h1,h2,_⟩
 ·exact⟨none,0,by rw[h0],by omega,Nat.zero_le _,fun hn=>by omega⟩
 ·refine⟨_,cap,e1,h1,h2,fun hn=>⟨g,0,rfl,(Array.getElem?_eq_some_iff.1 hg).1,hY g hbg,fun i hi=>?_⟩⟩
  obtain⟨a,k1,k2⟩:=ha.at i hi
  refine⟨a,fun j u hu=>?_,E.mono (fun g hg=>hg.1) k1⟩
  have:=hcells.cells (g:=g) (by rw[e1];rfl) (i*E.sz+j) u (k2 j u hu)
  rw[Addr.add_lit] at this
  rwa[Nat.add_assoc]
structure Inf (P:Program) (t e:TypeId) (size bytes:Nat):Prop where
 ht:P.underlying t=some (.slice e)
 ex: ∃i z,P.info? e=some i∧i.zero=some z∧i.size=size∧i.bytes=bytes∧z.cells.size=size
theorem GRow.apps {P:Program}{t:TypeId}{bytes:Nat}(I:Inf P t e E.sz bytes)(hY: ∀g,base≤g→Y g)(h:GRow E e base Y w v xs)(ty:TypeId){A:Option Addr}{c:Nat}{ys:List α}
 (hl:Lst E (Fr Y w.heap.size v.ownBlock) w A ys) (hn:(xs.length+ys.length)*bytes≤140737488355328) (hm:xs.length+ys.length≤maxLen) (hbase:base≤w.heap.size):
 ∃v' w',(Builtin.append_ #[t,t] ty #[v,.slice A ys.length c]).run P w=.ok v' w'∧GRow E e base Y w' v' (xs++ys)∧w.grownBy w' v.ownBlock:=by
 obtain⟨cs,ho,ha⟩:=h
 obtain⟨i,z,hi,hz,hsize,hby,hzs⟩:=I.ex
 rcases A with _ |a
 ·have hy:ys=[]:=by
   rcases Nat.eq_zero_or_pos ys.length with h0 |h0
   ·exact List.eq_nil_of_length_eq_zero h0
   ·obtain⟨_,_,h,_⟩:=hl h0;cases h
  subst hy
  refine⟨v,w,?_,⟨cs,by simpa using ho,by simpa using ha⟩,World.grownBy.refl w _⟩
  rcases ho.2 with ⟨rfl,h0⟩ | ⟨g,cap,cur,rfl,_,_,hnc,_⟩
  ·simp[Builtin.append_,run_underlying I.ht,sizeOf,typeInfo,hi,Builtin.lenOf,Builtin.firstCells]
  ·simp[Builtin.append_,run_underlying I.ht,sizeOf,typeInfo,hi,Builtin.lenOf,Builtin.firstCells,hnc,storeCells]
 ·have hns: ∃news,All E (Fr Y w.heap.size v.ownBlock) w ys news∧∀j u,news[j]? =some u→w.cell? (a.add j)=some u:=by
   by_cases h0:0<ys.length
   ·obtain⟨g,off,ea,hg,_,hc⟩:=hl h0
    cases ea
    obtain⟨news,k1,k2⟩:=flat_cells (E:=E) ys hc
    exact⟨news,k1,fun j u hu=>by rw[Addr.add_lit];exact k2 j u hu⟩
   ·have hy:ys=[]:=List.eq_nil_of_length_eq_zero (by omega)
    subst hy
    exact⟨[],rfl,fun j u hu=>by simp at hu⟩
  obtain⟨news,k1,k2⟩:=hns
  obtain⟨v',w',hr,hown',hgr,_,hob⟩:=app_gen (P:=P) w base t ty e i z E.sz bytes I.ht hi hz hsize hby hzs E.pos v xs.length cs ho a ys.length c news k1.len k2 k1.cells hm hn hbase
  refine⟨v',w',hr,⟨cs++news,by rw[List.length_append];exact hown',?_⟩,hgr⟩
  refine All.on (S:=Fr Y w.heap.size v.ownBlock) hgr.size (fun g hg hl=>hgr.block g hl hg.2.2) (fun g hg hl=>⟨hg.1,Nat.lt_of_lt_of_le hl hgr.size,fun e=>?_⟩) (k1.app ha)
  rcases hob with h1 | ⟨g',h1,h2⟩
  ·exact hg.2.2 (by rw[←h1];exact e)
  ·rw[h1] at e;cases e;omega
theorem GRow.app {P:Program}{t:TypeId}{bytes:Nat}(I:Inf P t e E.sz bytes)(hY: ∀g,base≤g→Y g)(h:GRow E e base Y w v xs)(ty:TypeId){g off:Nat}{c:Nat}{x:α}{news:List Value}
 (hg:Fr Y w.heap.size v.ownBlock g) (hc: ∀j u,news[j]? =some u→w.cell? ⟨g,off+j,none⟩=some u) (hx:E.hold (Fr Y w.heap.size v.ownBlock) w x news) (hn:(xs.length+1)*bytes≤140737488355328) (hm:xs.length+1≤maxLen) (hbase:base≤w.heap.size):
 ∃v' w',(Builtin.append_ #[t,t] ty #[v,.slice (some ⟨g,off,none⟩) 1 c]).run P w=.ok v' w'∧GRow E e base Y w' v' (xs++[x])∧w.grownBy w' v.ownBlock:=
 GRow.apps I hY h ty (ys:=[x]) (fun _=>⟨g,off,rfl,hg.2.1,hg,fun i hi=>by
  have hi:i=0:=by simpa using hi
  subst hi
  exact⟨news,fun j u hu=>by rw[Nat.zero_mul,Nat.add_zero];exact hc j u hu,hx⟩⟩) hn hm hbase
theorem GRow.lt (h:GRow E e base Y w v xs): ∀g,v.ownBlock=some g→base≤g∧g<w.heap.size:=by
 obtain⟨cs,ho,_⟩:=h
 exact ho.lt
end Go.Proofs.YtkjkhoglkpepiaaGreatDoor.nmc
namespace Go.Proofs.YtkjkhoglkpepiaaGreatDoor.nmc
open Go.RowKit tlvc ndc
def bytesI (s:ByteArray):List Int:=s.data.toList.map fun b=>(b.toNat:Int)
theorem bytesI_length (s:ByteArray):(bytesI s).length=s.size:=by unfold bytesI;rw[List.length_map];exact Array.length_toList
theorem bytesI_fit (s:ByteArray):Fit (bytesI s):=fun x hx=>by
 obtain⟨b,_,rfl⟩:=List.mem_map.1 hx
 have:=b.toNat_lt
 omega
theorem str_bytesI (s:ByteArray):strOfNums (bytesI s)=s:=by
 apply ByteArray.ext
 apply Array.ext'
 show(strOfNums (bytesI s)).data.toList=_
 rw[strOfNums_data]
 unfold bytesI
 rw[List.map_map]
 conv=>rhs;rw[←List.map_id s.data.toList]
 apply List.map_congr_left
 intro b _
 show UInt8.ofNat ((b.toNat:Int)).toNat=b
 rw[Int.toNat_natCast]
 exact UInt8.ofNat_toNat
theorem bys_conv {w:World}{s:ByteArray}{cap:Nat}{e:TypeId}{fr:Nat × Nat}(hc:s.size≤cap):Bys (w.alloc (.cells (bytesRow s cap) e fr)) (some ⟨w.heap.size,0,none⟩) s.size (bytesI s):=by
 refine⟨bytesI_length s,bytesI_fit s,fun _=>⟨_,0,rfl,by simp,fun j hj=>?_⟩⟩
 rw[Nat.zero_add,World.cell?_alloc_mark]
 have hlt:j<s.data.size:=hj
 unfold bytesRow bytesI
 rw[Array.getElem?_append_left (by simpa using hlt),Array.getElem?_map,Array.getElem?_eq_getElem hlt]
 simp[List.getD_eq_getElem?_getD,List.getElem?_map,Array.getElem?_toList,Array.getElem?_eq_getElem hlt]
structure At where
 oid:List Int
 text:ByteArray
instance:Inhabited At:=⟨⟨[],⟨#[]⟩⟩⟩
theorem ins_stays {S:Nat→Prop}{w w':World}(hs:Stays S w w'){A:Option Addr}{n:Nat}{xs:List Int}(h:Ins w A n xs)(hB:0<n→∀g off sp,A=some ⟨g,off,sp⟩→S g):Ins w' A n xs:=
 ⟨h.1,h.2.1,fun hn=>by
   obtain⟨b,off,e,hb,hc⟩:=h.2.2 hn
   exact⟨b,off,e,Nat.lt_of_lt_of_le hb hs.1,fun j hj=>(hs.2 ⟨b,off+j,none⟩ (hB hn b off none e) hb).trans (hc j hj)⟩⟩
def AtC (S:Nat→Prop)(w:World)(a:At)(c0 c1:Value):Prop:=∃A la ca,c0=.slice A la ca∧c1=.string a.text∧la≤ca∧ca≤maxLen∧Ins w A la a.oid∧(0<la→∀g off sp,A=some ⟨g,off,sp⟩→S g)∧a.text.size≤maxLen
def atE:El At where
 sz:=2
 hold S w a cs:=∃c0 c1,cs=[c0,c1]∧AtC S w a c0 c1
 stays:=fun hs ⟨c0,c1,e,A,la,ca,e0,e1,h1,h2,h3,h4,h5⟩=>⟨c0,c1,e,A,la,ca,e0,e1,h1,h2,ins_stays hs h3 h4,h4,h5⟩
 mono:=fun hS ⟨c0,c1,e,A,la,ca,e0,e1,h1,h2,h3,h4,h5⟩=>⟨c0,c1,e,A,la,ca,e0,e1,h1,h2,h3,fun hl g off sp e=>hS _ (h4 hl g off sp e),h5⟩
 bound:=fun⟨c0,c1,e,A,la,ca,e0,e1,h1,h2,h3,h4,h5⟩=>⟨c0,c1,e,A,la,ca,e0,e1,h1,h2,h3,fun hl g off sp e=>⟨h4 hl g off sp e,by
  obtain⟨b',off',e',hb',_⟩:=h3.2.2 hl
  rw[e'] at e;cases e;exact hb'⟩,h5⟩
 len:=fun⟨c0,c1,e,_⟩=>by rw[e];rfl
 one:=fun⟨c0,c1,e,A,la,ca,e0,e1,_⟩ u hu=>by
  subst e e0 e1
  simp at hu
  rcases hu with rfl |rfl<;>rfl
 pos:=by decide
def stE:El ByteArray where
 sz:=1
 hold S w s cs:=cs=[.string s]∧s.size≤maxLen
 stays:=fun _ h=>h
 mono:=fun _ h=>h
 bound:=fun h=>h
 len:=fun⟨e,_⟩=>by rw[e];rfl
 one:=fun⟨e,_⟩ u hu=>by
  subst e
  simp at hu
  subst hu;rfl
 pos:=by decide
def ndE:El Nd where
 sz:=3
 hold S w n cs:=∃c0 c1 c2,cs=[c0,c1,c2]∧NdC S w n c0 c1 c2
 stays:=fun hs ⟨c0,c1,c2,e,h⟩=>⟨c0,c1,c2,e,NdC.stays hs _ _ _ _ h⟩
 mono:=fun hS ⟨c0,c1,c2,e,h⟩=>⟨c0,c1,c2,e,NdC.mono hS _ _ _ _ h⟩
 bound:=fun⟨c0,c1,c2,e,h⟩=>⟨c0,c1,c2,e,NdC.bound _ _ _ _ h⟩
 len:=fun⟨c0,c1,c2,e,_⟩=>by rw[e];rfl
 one:=fun {S w n cs} ⟨c0,c1,c2,e,h⟩ u hu=>by
  subst e
  obtain⟨t,b,ks⟩:=n
  unfold NdC at h
  obtain⟨rfl,_,⟨A,la,ca,rfl,_⟩,K,ck,rfl,_⟩:=h
  simp at hu
  rcases hu with rfl |rfl |rfl<;>rfl
 pos:=by decide
theorem Lst.kids {B:Nat→Prop}{w:World}{K:Option Addr}{ks:List Nd}(h:Lst ndE B w K ks):0<ks.length→∃g off,K=some ⟨g,off,none⟩∧g<w.heap.size∧B g∧KidsC B w g off ks:=fun hn=>by
 obtain⟨g,off,e,hg,hB,hc⟩:=h hn
 refine⟨g,off,e,hg,hB,KidsC.of fun i hi=>?_⟩
 obtain⟨cs,h1,c0,c1,c2,rfl,h2⟩:=hc i hi
 exact⟨c0,c1,c2,h1 0 c0 rfl,h1 1 c1 rfl,h1 2 c2 rfl,h2⟩
theorem lst_kids {B:Nat→Prop}{w:World}{K:Option Addr}{ks:List Nd}(h:0<ks.length→∃g off,K=some ⟨g,off,none⟩∧g<w.heap.size∧B g∧KidsC B w g off ks):Lst ndE B w K ks:=fun hn=>by
 obtain⟨g,off,e,hg,hB,hc⟩:=h hn
 refine⟨g,off,e,hg,hB,fun i hi=>?_⟩
 obtain⟨c0,c1,c2,h0,h1,h2,hk⟩:=hc.at i hi
 refine⟨[c0,c1,c2],fun j u hu=>?_,c0,c1,c2,rfl,hk⟩
 match j,hu with
 |0,hu=>simp at hu;subst hu;exact h0
 |1,hu=>simp at hu;subst hu;exact h1
 |2,hu=>simp at hu;subst hu;exact h2
 |j+3,hu=>simp at hu
theorem ndC_of {B:Nat→Prop}{w:World}{t:Int}{K:Option Addr}{ck:Nat}{ks:List Nd}(ht:0≤t∧t≤255)(hc:ks.length≤ck)(hm:ck≤maxLen)(h:Lst ndE B w K ks):NdC B w (.mk t [] ks) (.int .u8 t) (.slice none 0 0) (.slice K ks.length ck):=by
 unfold NdC
 exact⟨rfl,ht,⟨none,0,0,rfl,lr_ _,Nat.zero_le _,Bys.nil_ _ _,fun h=>absurd h (by omega)⟩,K,ck,rfl,hc,hm,h.kids⟩
theorem ndC_leaf {B:Nat→Prop}{w:World}{t:Int}{A:Option Addr}{la ca:Nat}{b:List Int}(ht:0≤t∧t≤255)(hc:la≤ca)(hm:ca≤maxLen)(h:Bys w A la b)(hB:0<la→∀g off sp,A=some ⟨g,off,sp⟩→B g):NdC B w (.mk t b []) (.int .u8 t) (.slice A la ca) (.slice none 0 0):=by
 unfold NdC
 exact⟨rfl,ht,⟨A,la,ca,rfl,hc,hm,h,hB⟩,none,0,rfl,lr_ _,Nat.zero_le _,fun h=>absurd h (by simp)⟩
theorem NdC.kidsL {B:Nat→Prop}{w:World}{t:Int}{b:List Int}{ks:List Nd}{c0 c1 c2:Value}(h:NdC B w (.mk t b ks) c0 c1 c2):c0=.int .u8 t∧(0≤t∧t≤255)∧(∃A la ca,c1=.slice A la ca∧la≤ca∧ca≤maxLen∧Bys w A la b∧(0<la→∀g off sp,A=some ⟨g,off,sp⟩→B g))∧∃K ck,c2=.slice K ks.length ck∧ks.length≤ck∧ck≤maxLen∧Lst ndE B w K ks:=by
 unfold NdC at h
 obtain⟨h0,h1,h2,K,ck,h3,h4,h5,h6⟩:=h
 exact⟨h0,h1,h2,K,ck,h3,h4,h5,lst_kids h6⟩
structure Pr where
 realm:ByteArray
 names:List ByteArray
def PrC (S:Nat→Prop)(w:World)(p:Pr)(c0 c1:Value):Prop:=∃A c,c0=.string p.realm∧c1=.slice A p.names.length c∧p.names.length≤c∧c≤maxLen∧Lst stE S w A p.names∧p.realm.size≤maxLen
open dtc
theorem ints_of {w:World}: ∀(l:List Dt),(∀x∈l,IsSh (.int .i64) x)→∃xs:List Int,xs.length=l.length∧∀(g sz off:Nat),LiesRow (fun _=>True) w g sz off l→sz=1→Fit8 xs∧∀j,j<xs.length→w.cell? ⟨g,off+j,none⟩=some (.int .i64 (xs.getD j 0))
 | [],_=>⟨[],rfl,fun g sz off _ _=>⟨fun x hx=>by simp at hx,fun j hj=>by simp at hj⟩⟩
 |x::l,h=>by
  obtain⟨n,rfl⟩: ∃n,x=.int .i64 n:=by have:=h x (by simp);unfold IsSh at this;exact this
  obtain⟨xs,hl,hr⟩:=ints_of (w:=w) l (fun y hy=>h y (by simp[hy]))
  refine⟨n::xs,by simp[hl],fun g sz off hL hz=>?_⟩
  subst hz
  unfold LiesRow at hL
  obtain⟨⟨cs,h0,h1,h2⟩,h3⟩:=hL
  unfold Lies at h2
  obtain⟨rfl,hw⟩:=h2
  obtain⟨k1,k2⟩:=hr g 1 (off+1) h3 rfl
  refine⟨fun y hy=>?_,fun j hj=>?_⟩
  ·rcases List.mem_cons.1 hy with rfl |hy
   ·have:=bounds_i64 hw;omega
   ·exact k1 y hy
  ·match j,hj with
   |0,_=>simpa using h1 0 _ rfl
   |j+1,hj=>
    have:=k2 j (by simpa using hj)
    rw[show off+ (j+1)=off+1+j by omega]
    simpa using this
theorem ins_of {w:World}{l:List Dt}{A:Option Addr}{c:Nat}(hs: ∀x∈l,IsSh (.int .i64) x)(hr:0<l.length→∃g off,A=some ⟨g,off,none⟩∧g<w.heap.size∧True∧LiesRow (fun _=>True) w g 1 off l): ∃xs,Ins w A l.length xs:=by
 obtain⟨xs,hl,h⟩:=ints_of (w:=w) l hs
 by_cases h0:0<l.length
 ·obtain⟨g,off,e,hg,_,hL⟩:=hr h0
  obtain⟨k1,k2⟩:=h g 1 off hL rfl
  exact⟨xs,hl,k1,fun _=>⟨g,off,e,hg,fun j hj=>k2 j (by omega)⟩⟩
 ·have:xs=[]:=List.eq_nil_of_length_eq_zero (by omega)
  subst this
  exact⟨[],hl,fun x hx=>by simp at hx,fun hn=>absurd hn h0⟩
def atS:Sh:=.agg [.row (.int .i64),.str]
theorem at_of {w:World}{d:Dt}{cs:List Value}(hs:IsSh atS d)(h:Lies (fun _=>True) w d cs)(hf:fitDt d): ∃a:At,atE.hold (fun _=>True) w a cs∧a.text.size≤140737488351232:=by
 unfold atS IsSh at hs
 obtain⟨ds,rfl,hs⟩:=hs
 match ds,hs with
 | [d0,d1],hs=>
  unfold IsShs at hs
  obtain⟨s0,hs⟩:=hs
  unfold IsShs at hs
  obtain⟨s1,_⟩:=hs
  unfold IsSh at s0 s1
  obtain⟨l,rfl,hl⟩:=s0
  obtain⟨t,rfl⟩:=s1
  unfold Lies LiesAll at h
  obtain⟨a,b,rfl,h0,h⟩:=h
  unfold LiesAll at h
  obtain⟨a1,b1,rfl,h1,h⟩:=h
  unfold LiesAll at h
  subst h
  unfold Lies at h0 h1
  obtain⟨A,c,rfl,k1,k2,k3⟩:=h0
  obtain⟨rfl,k4⟩:=h1
  obtain⟨xs,hi⟩:=ins_of (A:=A) (c:=c) hl k3
  unfold fitDt fitDts at hf
  obtain⟨_,hf⟩:=hf
  unfold fitDts at hf
  have hf:=hf.1
  unfold fitDt at hf
  exact⟨⟨xs,t⟩,⟨_,_,rfl,A,l.length,c,rfl,rfl,k1,k2,hi,fun _ _ _ _ _=>trivial,k4⟩,hf⟩
 | [],hs=>unfold IsShs at hs;exact hs.elim
 | [_],hs=>unfold IsShs at hs;obtain⟨_,hs⟩:=hs;unfold IsShs at hs;exact hs.elim
 |_::_::_::_,hs=>unfold IsShs at hs;obtain⟨_,hs⟩:=hs;unfold IsShs at hs;obtain⟨_,hs⟩:=hs;unfold IsShs at hs;exact hs.elim
theorem list_of {α:Type}[Inhabited α]{E:El α}{s:Sh}{w:World}{P:α→Prop}(one: ∀(d:Dt) (cs:List Value),IsSh s d→Lies (fun _=>True) w d cs→fitDt d→∃a:α,E.hold (fun _=>True) w a cs∧P a)(hsz:s.sz=E.sz){l:List Dt}(hs: ∀x∈l,IsSh s x)(hf:fitDts l){A:Option Addr}
 (hr:0<l.length→∃g off,A=some ⟨g,off,none⟩∧g<w.heap.size∧LiesRow (fun _=>True) w g s.sz off l): ∃xs:List α,xs.length=l.length∧Lst E (fun _=>True) w A xs∧∀x∈xs,P x:=by
 by_cases h0:0<l.length
 ·obtain⟨g,off,e,hg,hL⟩:=hr h0
  have each: ∀i,i<l.length→∃a:α,(∃cs:List Value,(∀j u,cs[j]? =some u→w.cell? ⟨g,off+i*E.sz+j,none⟩=some u)∧E.hold (fun _=>True) w a cs)∧P a:=fun i hi=>by
   obtain⟨cs,k0,k1,k2⟩:=hL.at i hi
   obtain⟨a,k3,k4⟩:=one l[i] cs (hs _ (List.getElem_mem _)) k2 (fitDts_all.1 hf _ (List.getElem_mem _))
   exact⟨a,⟨cs,by rw[←hsz];exact k1,k3⟩,k4⟩
  obtain⟨f,hf⟩:=Go.Deep.choose_lt each
  refine⟨(List.range l.length).map f,by simp,fun _=>⟨g,off,e,hg,trivial,fun i hi=>?_⟩,fun x hx=>?_⟩
  ·obtain⟨⟨cs,k1,k2⟩,_⟩:=hf i (by simpa using hi)
   exact⟨cs,k1,by simpa using k2⟩
  ·obtain⟨i,hi,rfl⟩:=List.mem_map.1 hx
   exact(hf i (List.mem_range.1 hi)).2
 ·exact⟨[],by simp;omega,Lst.nil _ _ _,fun x hx=>by simp at hx⟩
theorem st_of {w:World}{d:Dt}{cs:List Value}(hs:IsSh .str d)(h:Lies (fun _=>True) w d cs)(hf:fitDt d): ∃a:ByteArray,stE.hold (fun _=>True) w a cs∧a.size≤140737488351232:=by
 unfold IsSh at hs
 obtain⟨s,rfl⟩:=hs
 unfold Lies at h
 unfold fitDt at hf
 exact⟨s,h,hf⟩
theorem princ_of {w:World}{l:List Dt}{c0 c1:Value}(hs:IsShs [.str,.row .str] l)(h:LiesAll (fun _=>True) w l [c0,c1])(hf:fitDts l): ∃p:Pr,PrC (fun _=>True) w p c0 c1∧p.realm.size≤140737488351232∧∀a∈p.names,a.size≤140737488351232:=by
 match l,hs with
 | [d0,d1],hs=>
  unfold IsShs at hs
  obtain⟨s0,hs⟩:=hs
  unfold IsShs at hs
  obtain⟨s1,_⟩:=hs
  unfold IsSh at s0 s1
  obtain⟨t,rfl⟩:=s0
  obtain⟨l,rfl,hl⟩:=s1
  unfold LiesAll at h
  obtain⟨a,b,e0,h0,h⟩:=h
  unfold LiesAll at h
  obtain⟨a1,b1,e1,h1,h⟩:=h
  unfold LiesAll at h
  subst h
  unfold Lies at h0 h1
  obtain⟨rfl,k4⟩:=h0
  obtain⟨A,c,rfl,k1,k2,k3⟩:=h1
  subst e1
  simp only[List.cons_append,List.nil_append,List.cons.injEq,and_true] at e0
  obtain⟨rfl,rfl⟩:=e0
  unfold fitDts at hf
  obtain⟨f0,hf⟩:=hf
  unfold fitDts at hf
  have f1:=hf.1
  unfold fitDt at f0 f1
  obtain⟨xs,hx1,hx2,hx3⟩:=list_of (E:=stE) (s:=.str) (P:=fun a=>a.size≤140737488351232) (fun d cs h1 h2 h3=>st_of h1 h2 h3) rfl hl f1 (A:=A) (fun hn=>by obtain⟨g,off,e,hg,_,hr⟩:=k3 hn;exact⟨g,off,e,hg,hr⟩)
  exact⟨⟨t,xs⟩,⟨A,c,rfl,by rw[hx1],by rw[hx1];exact k1,k2,hx2,k4⟩,f0,hx3⟩
 | [],hs=>unfold IsShs at hs;exact hs.elim
 | [_],hs=>unfold IsShs at hs;obtain⟨_,hs⟩:=hs;unfold IsShs at hs;exact hs.elim
 |_::_::_::_,hs=>unfold IsShs at hs;obtain⟨_,hs⟩:=hs;unfold IsShs at hs;obtain⟨_,hs⟩:=hs;unfold IsShs at hs;exact hs.elim
end Go.Proofs.YtkjkhoglkpepiaaGreatDoor.nmc
namespace Go.Proofs.YtkjkhoglkpepiaaGreatDoor.nmc
open Go.RowKit tlvc tlvd ndc txc txm intc intm
def utfS (s:ByteArray):Bool:=Lib.validD s.data.toList
theorem utf_bytesI (s:ByteArray):utfB (bytesI s)=utfS s:=by unfold utfB utfS;rw[str_bytesI]
def attrOK (a:At):Bool:=objB a.oid && decide (a.text.size≤64) && utfS a.text
def attrN (a:At):Nd:=.mk 48 [] [.mk 6 (encO a.oid) [],.mk 12 (bytesI a.text) []]
def rightN (l:List At):Bool:=decide (l.length≤8) && l.all attrOK
def nameN (l:List At):Nd:=.mk 48 [] (l.map attrN)
def wordOK (s:ByteArray):Bool:=decide (1≤s.size) && decide (s.size≤64) && rightB 27 (bytesI s)
def wordN (s:ByteArray):Nd:=.mk 27 (bytesI s) []
def rightP (p:Pr):Bool:=wordOK p.realm && decide (1≤p.names.length) && decide (p.names.length≤8) && p.names.all wordOK
def princN (p:Pr):Nd:=.mk 48 [] [wordN p.realm,.mk 48 [] (p.names.map wordN)]
def seqF {α:Type}(F:α→Option Nd):List α→Option (List Nd)
 | []=>some []
 |x::xs=>match F x with
  |none=>none
  |some n=>(seqF F xs).map (n:: ·)
theorem seqF_all {α:Type}{ok:α→Bool}{g:α→Nd}: ∀(xs:List α),seqF (fun x=>if ok x=true then some (g x) else none) xs=if xs.all ok=true then some (xs.map g) else none
 | []=>rfl
 |x::xs=>by
  unfold seqF
  rw[seqF_all xs,List.all_cons]
  cases h:ok x
  ·simp
  ·simp only[if_true,Bool.true_and]
   split<;>rfl
def attrF (a:At):Option Nd:=if attrOK a=true then some (attrN a) else none
def wordF (s:ByteArray):Option Nd:=if wordOK s=true then some (wordN s) else none
def checkF (n:Nd):Option Nd:=if errW (writeF n 0)=0 then some n else none
def nameF (l:List At):Option Nd:=if rightN l=true then some (nameN l) else none
def princF (p:Pr):Option Nd:=if rightP p=true then some (princN p) else none
theorem seqF_attr (l:List At):seqF attrF l=if l.all attrOK=true then some (l.map attrN) else none:=seqF_all l
theorem seqF_word (l:List ByteArray):seqF wordF l=if l.all wordOK=true then some (l.map wordN) else none:=seqF_all l
theorem err_put {t:Int}{b:List Int}(ht:endlessB t=false)(hb:b.length≤65535):errW (putW t b)=0:=by
 have e:putF t b=(putBytes t b,0):=by
  unfold putF
  rw[if_neg (by rw[ht];decide),if_neg (by omega)]
 unfold putW
 rw[e]
 rfl
theorem write_leaf {t:Int}{b:List Int}(ht:t%32≠31)(hc:compB t=false)(he:endlessB t=false)(hb:b.length≤65535):errW (writeF (.mk t b []) 0)=if mayF t b=true then 0 else 43:=by
 unfold writeF aloneF
 rw[if_neg (by decide: ¬32≤0),if_neg ht]
 by_cases hm:mayF t b=true
 ·rw[if_pos hm,if_neg (by decide)]
  have hmis:misF t b ([]:List Nd).length=false:=by unfold misF;rw[hc];rfl
  rw[hmis,hc,if_neg (by decide),if_neg (by decide)]
  exact err_put he hb
 ·rw[if_neg hm,if_pos (by decide)]
  rfl
theorem check_oid {l:List Int}(h:objB l=true):checkF (.mk 6 (encO l) [])=some (.mk 6 (encO l) []):=by
 unfold checkF
 rw[write_leaf (by decide) (by decide) (by decide) (by have:=encO_length h;omega)]
 have:mayF 6 (encO l)=true:=by
  have e:mayF 6 (encO l)=decide ((oidF (encO l)).2=0):=rfl
  rw[e,oidF_enc h]
  rfl
 rw[this]
 rfl
theorem check_utf {s:ByteArray}(h:s.size≤64):checkF (.mk 12 (bytesI s) [])=if utfS s=true then some (.mk 12 (bytesI s) []) else none:=by
 unfold checkF
 rw[write_leaf (by decide) (by decide) (by decide) (by rw[bytesI_length];omega)]
 have:mayF 12 (bytesI s)=utfS s:=by
  have e:mayF 12 (bytesI s)=utfB (bytesI s):=rfl
  rw[e,utf_bytesI]
 rw[this]
 cases utfS s<;>rfl
theorem check_word {s:ByteArray}(h:s.size≤64):checkF (wordN s)=if rightB 27 (bytesI s)=true then some (wordN s) else none:=by
 unfold checkF wordN
 rw[write_leaf (by decide) (by decide) (by decide) (by rw[bytesI_length];omega)]
 have:mayF 27 (bytesI s)=rightB 27 (bytesI s):=rfl
 rw[this]
 cases rightB 27 (bytesI s)<;>rfl
theorem check_attr {a:At}(ho:objB a.oid=true)(hs:a.text.size≤64):seqF checkF [.mk 6 (encO a.oid) [],.mk 12 (bytesI a.text) []]=if utfS a.text=true then some [.mk 6 (encO a.oid) [],.mk 12 (bytesI a.text) []] else none:=by
 unfold seqF
 rw[check_oid ho]
 unfold seqF
 rw[check_utf hs]
 cases utfS a.text<;>rfl
def kidF (n:Nd)(i:Nat):Nd:=n.kids.getD i (.mk 0 [] [])
def toldA (n:Nd):At:=⟨(oidF (kidF n 0).body).1,strOfNums (kidF n 1).body⟩
def toldN (n:Nd):List At:=(n.kids.take 8).map toldA
def toldP (n:Nd):Pr:=⟨strOfNums (kidF n 0).body,((kidF n 1).kids.take 8).map fun k=>strOfNums k.body⟩
theorem toldA_attr {a:At}(h:objB a.oid=true):toldA (attrN a)=a:=by
 unfold toldA attrN kidF
 simp only[Nd.kids,Nd.body,List.getD_cons_zero,List.getD_cons_succ]
 rw[oidF_enc h,str_bytesI]
theorem told_name {l:List At}(h:rightN l=true):toldN (nameN l)=l:=by
 unfold rightN at h
 rw[Bool.and_eq_true,decide_eq_true_eq,List.all_eq_true] at h
 unfold toldN nameN
 simp only[Nd.kids]
 rw[List.take_of_length_le (by rw[List.length_map];omega),List.map_map]
 conv=>rhs;rw[←List.map_id l]
 apply List.map_congr_left
 intro a ha
 have:=h.2 a ha
 unfold attrOK at this
 rw[Bool.and_eq_true,Bool.and_eq_true] at this
 exact toldA_attr this.1.1
def getN (n:Nd):Option (List At):=if rightN (toldN n)=true∧sameN (nameN (toldN n)) n=true then some (toldN n) else none
def getP (n:Nd):Option Pr:=if rightP (toldP n)=true∧sameN (princN (toldP n)) n=true then some (toldP n) else none
theorem getN_name {l:List At}(h:rightN l=true):getN (nameN l)=some l:=by
 unfold getN
 rw[told_name h,if_pos ⟨h,sameN_refl _⟩]
end Go.Proofs.YtkjkhoglkpepiaaGreatDoor.nmc
