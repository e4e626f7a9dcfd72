/- Plain words on memory that the proofs of this seat share: a  -/
import Derived.Lib.Hide
import Derived.OrdersHeld
import Derived.Deep.RegionHeld
import Derived.Lib.Builder
import Derived.WalkKit
import Derived.Below
import Derived.Laws.BytesArg
import Derived.BigQuiet
import Derived.Deep.QuietTactic
import Derived.Deep.Draws
import Derived.OpenShut
import Derived.ProofKit
import Derived.Laws.Append
import Derived.Laws.AppendOwn
set_option linter.unusedVariables false
set_option linter.unusedSimpArgs false
namespace Go.Proofs.YtkjkhoglkpepiaaGreatDoor
open Go.RowKit
theorem nm_ {α:Type}(a:α): ∃x,a=x:=⟨a,rfl⟩
abbrev qa_:= @List.setIfInBounds_toArray
abbrev qb_:= @List.set_cons_zero
abbrev qc_:= @List.set_cons_succ
abbrev ch_:= @Lib.cell_of_heap
abbrev fh_:= @Lib.frozen_of_heap
abbrev ai_:= @And.intro
abbrev lr_:= @Nat.le_refl
abbrev hd_:= @Lib.hid
abbrev br_:= @Below.refl
theorem tk_ {P:Program}{ops:Array Oper}{Q:Exit→Act→World→Prop}{md:Region.Mode}{S:World→Prop}{i:Nat}{oi:Oper}{v:Value}{fuel:Nat}{listed l':Array Bool}{a a':Act}{w:World}(hi:ops[i]? =some oi:=by rfl)(hs:Region.noSelect ops=true:=by kernel_rfl)(hf:Region.free md ops listed i=true:=by kernel_rfl)(hr:(Region.ready md ops listed).contains i=true:=by kernel_rfl)
 (hQ: ∀c a w,Q (.panic c) (a.put oi.dst v) w→Q (.panic c) a w:=by exact fun _ _ _ h=>h)
 (y:YieldsIf P ops S oi v a:=by
  refine Or.inl ⟨by rfl,?_⟩
  intro wS hSw
  (first |obtain⟨c1,c2,c3,c4,c5,c6⟩:=hSw |obtain⟨c1,c2,c3,c4,c5⟩:=hSw |obtain⟨c1,c2,c3,c4⟩:=hSw |obtain⟨c1,c2,c3⟩:=hSw |obtain⟨c1,c2⟩:=hSw |skip)
  go_simp
  (try with_reducible rfl)
  done) (hS:S w:=by assumption)
 (el:listed.setIfInBounds i true=l':=by first | (simp only[List.setIfInBounds_toArray,List.set_cons_zero,List.set_cons_succ];done) |rfl)
 (ea:a.put oi.dst v=a':=by first | (simp only[Act.put,List.setIfInBounds_toArray,List.set_cons_zero,List.set_cons_succ];done) |rfl)
 (z:wpAnyH P md ops Q S fuel l' a' w):wpAnyH P md ops Q S (fuel+1) listed a w:=wpAnyH_take hi hs hf hr hQ y hS (by rw[el,ea];exact z)
theorem on_ {P:Program}{ops:Array Oper}{Q:Exit→Act→World→Prop}{md:Region.Mode}{S:World→Prop}{fuel:Nat}{listed l':Array Bool}{a:Act}{w:World}{i:Nat}{o:Oper}(hr:Region.ready md ops listed=[i]:=by kernel_rfl)(ho:ops[i]? =some o:=by rfl)
 (el:listed.setIfInBounds i true=l':=by first | (simp only[List.setIfInBounds_toArray,List.set_cons_zero,List.set_cons_succ];done) |rfl)
 (z: ∀K':Act→World→Prop,Shut (∀a w,S w→(S w→wpAnyH P md ops Q S fuel l' a w)→K' a w)→if Region.wanted o (yielded ops a.tmps)=true then Oper.wp P o a w K' Q else K' (a.put o.dst undef) w):wpAnyH P md ops Q S (fuel+1) listed a w:=
 wpAnyH_ready hr (by simp) (AllReadyH.cons ho (by rw[el];exact z) AllReadyH.nil)
end Go.Proofs.YtkjkhoglkpepiaaGreatDoor
namespace Go.Proofs.YtkjkhoglkpepiaaGreatDoor.tlvc
open Go.RowKit
def vals (xs:List Int):List Value:=xs.map (Value.int .u8)
theorem vals_length (xs:List Int):(vals xs).length=xs.length:=List.length_map ..
theorem vals_append (xs ys:List Int):vals (xs++ys)=vals xs++vals ys:=List.map_append ..
theorem vals_one (xs:List Int): ∀u∈vals xs,u.oneCell'=true:=ints_oneCell .u8 xs
def Fit (xs:List Int):Prop:=∀x∈xs,0≤x∧x≤255
theorem Fit.app {xs ys:List Int}(h:Fit xs)(k:Fit ys):Fit (xs++ys):=fun x hx=>(List.mem_append.1 hx).elim (h x) (k x)
theorem Fit.getD {xs:List Int}(h:Fit xs)(j:Nat):0≤xs.getD j 0∧xs.getD j 0≤255:=by
 rcases Nat.lt_or_ge j xs.length with hj |hj
 ·rw[List.getD_eq_getElem?_getD,List.getElem?_eq_getElem hj];exact h _ (List.getElem_mem hj)
 ·rw[List.getD_eq_getElem?_getD,List.getElem?_eq_none hj];exact⟨Int.le_refl _,by decide⟩
theorem Fit.take {xs:List Int}(h:Fit xs)(k:Nat):Fit (xs.take k):=fun x hx=>h x (List.mem_of_mem_take hx)
theorem Fit.drop {xs:List Int}(h:Fit xs)(k:Nat):Fit (xs.drop k):=fun x hx=>h x (List.mem_of_mem_drop hx)
def Bys (w:World)(A:Option Addr)(n:Nat)(xs:List Int):Prop:=
 xs.length=n∧Fit xs∧(0<n→∃b off,A=some ⟨b,off,none⟩∧b<w.heap.size∧∀j,j<n→w.cell? ⟨b,off+j,none⟩=some (.int .u8 (xs.getD j 0)))
section
variable {w w':World} {A:Option Addr} {n:Nat} {xs:List Int}
theorem Bys.nil_ (w:World)(A:Option Addr):Bys w A 0 []:=⟨rfl,(fun _ h=>absurd h (by simp)),fun h=>absurd h (by omega)⟩
theorem Bys.len (h:Bys w A n xs):xs.length=n:=h.1
theorem Bys.fit (h:Bys w A n xs):Fit xs:=h.2.1
theorem Bys.keep (h:Bys w A n xs)(hs:w.heap.size≤w'.heap.size)(hk: ∀p:Addr,p.block<w.heap.size→w'.cell? p=w.cell? p):Bys w' A n xs:=
 ⟨h.1,h.2.1,fun hn=>by
   obtain⟨b,off,e,hb,hc⟩:=h.2.2 hn
   exact⟨b,off,e,by omega,fun j hj=>(hk _ hb).trans (hc j hj)⟩⟩
theorem Bys.below (h:Bys w A n xs)(hb:Below w.heap.size w w'):Bys w' A n xs:=h.keep hb.size fun _ hp=>hb.cell hp
theorem Bys.alloc (h:Bys w A n xs)(o:Obj):Bys (w.alloc o) A n xs:=h.below ((br_ _ _).alloc (lr_ _) o)
theorem Bys.drew (h:Bys w A n xs):Bys w.drew A n xs:=h
theorem Bys.own {base:Nat}{e:TypeId}{c:Nat}(h:w.ownsRow base e 1 (.slice A n c) n (vals xs))(hf:Fit xs):Bys w A n xs:=by
 have hl:xs.length=n:=by have:=h.1;rw[vals_length] at this;omega
 refine⟨hl,hf,fun hn=>?_⟩
 rcases h.2 with ⟨_,h0⟩ | ⟨g,cap,cur,hv,_,hg,_⟩
 ·omega
 ·have hA:A=some ⟨g,0,none⟩∧cap=c:=by simp only[Value.slice.injEq,true_and] at hv;exact⟨hv.1,hv.2.symm⟩
  obtain⟨rfl,rfl⟩:=hA
  refine⟨g,0,rfl,(Array.getElem?_eq_some_iff.1 hg).1,fun j hj=>?_⟩
  rw[Nat.zero_add,h.cellAt j (by omega)]
  simp[vals,List.getD_eq_getElem?_getD,List.getElem?_eq_getElem (show j<xs.length by omega)]
theorem Bys.cut (h:Bys w A n xs){k cap:Nat}(hk:k≤n)(hc:n≤cap):Bys w (if cap=k then A else A.map (·.add k)) (n - k) (xs.drop k):=by
 refine⟨by rw[List.length_drop,h.1],h.2.1.drop k,fun hn=>?_⟩
 obtain⟨b,off,rfl,hb,hcell⟩:=h.2.2 (by omega)
 rw[if_neg (by omega)]
 refine⟨b,off+k,by simp[Addr.add_lit],hb,fun j hj=>?_⟩
 rw[Nat.add_assoc,hcell (k+j) (by omega)]
 simp[List.getD_eq_getElem?_getD,List.getElem?_drop]
theorem Bys.upto (h:Bys w A n xs){k:Nat}(hk:k≤n):Bys w A k (xs.take k):=by
 refine⟨by rw[List.length_take,h.1];omega,h.2.1.take k,fun hn=>?_⟩
 obtain⟨b,off,rfl,hb,hcell⟩:=h.2.2 (by omega)
 refine⟨b,off,rfl,hb,fun j hj=>?_⟩
 rw[hcell j (by omega)]
 simp[List.getD_eq_getElem?_getD,hj]
end
section
variable {P:Program} (w:World)
theorem run_app_nil (base:Nat)(t ty e:TypeId)(i:TypeInfo)(ht:P.underlying t=some (.slice e))(hi:P.info? e=some i)
 (v:Value) (n:Nat) (xs:List Value) (hown:w.ownsRow base e 1 v n xs) (c:Nat):(Builtin.append_ #[t,t] ty #[v,.slice none 0 c]).run P w=.ok v w:=by
 rcases hown.2 with ⟨rfl,rfl⟩ | ⟨g,cap,cur,rfl,_,_,hnc,_⟩
 ·simp[Builtin.append_,run_underlying ht,sizeOf,typeInfo,hi,Builtin.lenOf,Builtin.firstCells]
 ·simp[Builtin.append_,run_underlying ht,sizeOf,typeInfo,hi,Builtin.lenOf,Builtin.firstCells,hnc,storeCells]
theorem run_app (base:Nat)(t ty e:TypeId)(i:TypeInfo)(z:Value)(ht:P.underlying t=some (.slice e))(hi:P.info? e=some i)(hz:i.zero=some z)
 (hsize:i.size=1) (hby:i.bytes=1) (hzs:z.cells.size=1)
 (v:Value) (n:Nat) (xs:List Value) (hown:w.ownsRow base e 1 v n xs)
 (A:Option Addr) (m c:Nat) (ys:List Int) (hb:Bys w A m ys) (hbnd:n+m≤140737488355328) (hbase:base≤w.heap.size):
 ∃v' w',(Builtin.append_ #[t,t] ty #[v,.slice A m c]).run P w=.ok v' w'∧w'.ownsRow base e 1 v' (n+m) (xs++vals ys)∧w.grownBy w' v.ownBlock:=by
 have hmax:n+m≤maxLen:=by unfold maxLen;omega
 rcases A with _ |ad
 ·have hm:m=0:=by
   rcases Nat.eq_zero_or_pos m with h0 |h0
   ·exact h0
   ·obtain⟨b,off,h,_⟩:=hb.2.2 h0
    cases h
  subst hm
  have hn:ys=[]:=List.eq_nil_of_length_eq_zero hb.1
  subst hn
  exact⟨v,w,run_app_nil w base t ty e i ht hi v n xs hown c,by simpa[vals] using hown,World.grownBy.refl w _⟩
 ·have hcells: ∀j u,(vals ys)[j]? =some u→w.cell? (ad.add j)=some u:=by
   intro j u hu
   have hj:j<ys.length:=by
    have:=(List.getElem?_eq_some_iff.1 hu).1
    rwa[vals_length] at this
   obtain⟨b,off,h,_,hc⟩:=hb.2.2 (by have:=hb.1;omega)
   cases h
   rw[Addr.add_lit,hc j (by have:=hb.1;omega),←hu]
   simp[vals,List.getD_eq_getElem?_getD,List.getElem?_eq_getElem hj]
  obtain⟨v',w',h1,h2,h3,_⟩:=run_append_own (P:=P) w base t ty e i z 1 1 ht hi hz hsize hby hzs (by decide) v n xs hown ad m c (vals ys) (by rw[vals_length,hb.1];omega) hcells (vals_one ys) hmax (by omega) hbase
  exact⟨v',w',h1,h2,h3⟩
theorem wpl_app {w:World}{ops:Array Oper}{rest:List Oper}{o:Oper}{a:Act}{Q:Exit→Act→World→Prop}(hgd:o.guard=none)(s x:Operand)(t:TypeId)
 (ho:o.op=.call {callee:=.builtin .append,args:=#[s,x],argTypes:=#[t,t]})
 (base:Nat) (e:TypeId) (i:TypeInfo) (z:Value) (ht:P.underlying t=some (.slice e)) (hi:P.info? e=some i) (hz:i.zero=some z)
 (hsize:i.size=1) (hby:i.bytes=1) (hzs:z.cells.size=1)
 (v:Value) (n:Nat) (xs:List Value) (hs:a.eval s=v) (hown:w.ownsRow base e 1 v n xs)
 (A:Option Addr) (m c:Nat) (ys:List Int) (hx:a.eval x=.slice A m c) (hb:Bys w A m ys) (hbnd:n+m≤140737488355328) (hbase:base≤w.heap.size)
 (h: ∀v' w',w'.ownsRow base e 1 v' (n+m) (xs++vals ys)→w.grownBy w' v.ownBlock→wpList P ops Q rest (a.put o.dst v') w'):wpList P ops Q (o::rest) a w:=by
 refine wpList_plain hgd fun K hK=>?_
 obtain⟨v',w',hrun,h2,h3⟩:=run_app (P:=P) w base t o.type e i z ht hi hz hsize hby hzs v n xs hown A m c ys hb hbnd hbase
 unfold Oper.wp
 simp[execOp,ho,resolve,invoke,builtin,hs,hx,hrun,Result.andThen]
 exact hK _ _ (h v' w' h2 h3)
theorem run_str {w:World}(src e:TypeId)(hs:P.underlying src=some (.slice e))(he:P.underlying e=some (.int .u8))(A:Option Addr)(n c:Nat)(xs:List Int)(h:Bys w A n xs):
 ∀dst,P.underlying dst=some .string→(convert src dst (.slice A n c)).run P w=.ok (.string (strOfNums xs)) w:=by
 intro dst hd
 rcases A with _ |ad
 ·have hm:n=0:=by
   rcases Nat.eq_zero_or_pos n with h0 |h0
   ·exact h0
   ·obtain⟨b,off,h,_⟩:=h.2.2 h0
    cases h
  subst hm
  have hn:xs=[]:=List.eq_nil_of_length_eq_zero h.1
  subst hn
  rw[run_convert_bytes_nil w src e hs he 0 c dst hd]
  rfl
 ·by_cases h0:0<n
  ·obtain⟨b,off,hA,_,hc⟩:=h.2.2 h0
   cases hA
   exact run_convert_bytes_arg w src e hs he b off n c xs h.1 hc dst hd
  ·have hm:n=0:=by omega
   subst hm
   have hn:xs=[]:=List.eq_nil_of_length_eq_zero h.1
   subst hn
   rw[run_convert_bytes_string w src dst e _ 0 c hs he hd]
   exact run_bytesToString w ad 0 c [] (by simp[loadCells,loadCellsFrom,Sem.run_pure])
end
end Go.Proofs.YtkjkhoglkpepiaaGreatDoor.tlvc
namespace Go.Proofs.YtkjkhoglkpepiaaGreatDoor.tlvc
open Go.RowKit
theorem Bys.drewN {w:World}{A:Option Addr}{n:Nat}{xs:List Int}(h:Bys w A n xs)(q:Nat):Bys (w.drewN q) A n xs:=h
theorem own_cap {w:World}{base:Nat}{e:TypeId}{A:Option Addr}{n c m:Nat}{xs:List Value}(h:w.ownsRow base e 1 (.slice A n c) m xs):n≤c:=by
 rcases h.2 with ⟨h,_⟩ | ⟨g,cap,cur,h,_,_,hc,_⟩
 ·simp only[Value.slice.injEq] at h;omega
 ·simp only[Value.slice.injEq] at h;omega
theorem own_max {w:World}{base:Nat}{e:TypeId}{A:Option Addr}{n c m:Nat}{xs:List Value}(h:w.ownsRow base e 1 (.slice A n c) m xs):c≤maxLen:=by
 rcases h.2 with ⟨h,_⟩ | ⟨g,cap,cur,h,_,_,_,hc,_⟩
 ·simp only[Value.slice.injEq] at h
  rw[h.2.2];exact Nat.zero_le _
 ·simp only[Value.slice.injEq] at h
  rw[h.2.2];exact hc
theorem own_shape {w:World}{base:Nat}{e:TypeId}{v:Value}{n:Nat}{xs:List Value}(h:w.ownsRow base e 1 v n xs): ∃A c,v=.slice A n c∧n≤c∧c≤maxLen∧∀k,k<n→∃g,A=some ⟨g,0,none⟩∧base≤g∧g<w.heap.size:=by
 rcases h.2 with ⟨rfl,rfl⟩ | ⟨g,cap,cur,rfl,hg,hh,hn,hc,_⟩
 ·exact⟨none,0,rfl,lr_ _,Nat.zero_le _,fun k hk=>absurd hk (by omega)⟩
 ·exact⟨_,cap,rfl,hn,hc,fun _ _=>⟨g,rfl,hg,(Array.getElem?_eq_some_iff.1 hh).1⟩⟩
theorem Bys.kept {w w':World}{A:Option Addr}{n:Nat}{xs:List Int}{row:Option Nat}(h:Bys w A n xs)(hg:w.grownBy w' row)(hne: ∀b off,A=some ⟨b,off,none⟩→some b≠row):Bys w' A n xs:=
 ⟨h.1,h.2.1,fun hn=>by
   obtain⟨b,off,e,hb,hc⟩:=h.2.2 hn
   exact⟨b,off,e,Nat.lt_of_lt_of_le hb hg.size,fun j hj=>(World.cell?_of_block (hg.block b hb (hne b off e))).trans (hc j hj)⟩⟩
theorem grown_of_below {a b:World}(h:Below a.heap.size a b)(row:Option Nat):a.grownBy b row:=⟨h.os,h.tape,h.output,h.size,fun i hi _=>h.block i hi⟩
theorem own_below {w w':World}{base:Nat}{e:TypeId}{size:Nat}{v:Value}{n:Nat}{xs:List Value}(h:w.ownsRow base e size v n xs)(hb:Below w.heap.size w w'):w'.ownsRow base e size v n xs:=
 h.kept (grown_of_below hb none) (by cases hv:v.ownBlock<;>simp)
theorem bys_at {w:World}{g n:Nat}{xs:List Int}(h:Bys w (some ⟨g,0,none⟩) n xs)(j:Nat)(hj:j<n):w.cell? ⟨g,j,none⟩=some (.int .u8 (xs.getD j 0)):=by
 obtain⟨b,off,e,_,hc⟩:=h.2.2 (by omega)
 cases e
 have:=hc j hj
 rwa[Nat.zero_add] at this
theorem own_base {w:World}{base base':Nat}{e:TypeId}{size:Nat}{v:Value}{n:Nat}{xs:List Value}(h:w.ownsRow base e size v n xs)(hb:base'≤base):w.ownsRow base' e size v n xs:=by
 refine⟨h.1,?_⟩
 rcases h.2 with h | ⟨g,cap,cur,h1,h2,h3⟩
 ·exact .inl h
 ·exact .inr ⟨g,cap,cur,h1,by omega,h3⟩
end Go.Proofs.YtkjkhoglkpepiaaGreatDoor.tlvc
namespace Go.Proofs.YtkjkhoglkpepiaaGreatDoor.ndc
open Go.RowKit tlvc
inductive Nd where
 |mk (tag:Int) (body:List Int) (kids:List Nd)
def Nd.tag:Nd→Int | .mk t _ _=>t
def Nd.body:Nd→List Int | .mk _ b _=>b
def Nd.kids:Nd→List Nd | .mk _ _ k=>k
mutual
def NdC (B:Nat→Prop)(w:World):Nd→Value→Value→Value→Prop
 | .mk t b ks,c0,c1,c2=>c0=.int .u8 t∧(0≤t∧t≤255)∧(∃A la ca,c1=.slice A la ca∧la≤ca∧ca≤maxLen∧Bys w A la b∧(0<la→∀g off sp,A=some ⟨g,off,sp⟩→B g))∧
  (∃K ck,c2=.slice K ks.length ck∧ks.length≤ck∧ck≤maxLen∧(0<ks.length→∃g off,K=some ⟨g,off,none⟩∧g<w.heap.size∧B g∧KidsC B w g off ks))
def KidsC (B:Nat→Prop)(w:World)(g:Nat):Nat→List Nd→Prop
 |_,[]=>True
 |off,k::ks=>(∃c0 c1 c2,w.cell? ⟨g,off,none⟩=some c0∧w.cell? ⟨g,off+1,none⟩=some c1∧w.cell? ⟨g,off+2,none⟩=some c2∧NdC B w k c0 c1 c2)∧KidsC B w g (off+3) ks
end
def Stays (B:Nat→Prop)(w w':World):Prop:=w.heap.size≤w'.heap.size∧∀p:Addr,B p.block→p.block<w.heap.size→w'.cell? p=w.cell? p
theorem bys_stays {B:Nat→Prop}{w w':World}(hs:Stays B w w'){A:Option Addr}{n:Nat}{xs:List Int}(h:Bys w A n xs)(hB:0<n→∀g off sp,A=some ⟨g,off,sp⟩→B g):Bys w' A n xs:=
 ⟨h.1,h.2.1,fun hn=>by
   obtain⟨b,off,e,hb,hc⟩:=h.2.2 hn
   exact⟨b,off,e,Nat.lt_of_lt_of_le hb hs.1,fun j hj=>(hs.2 ⟨b,off+j,none⟩ (hB hn b off none e) hb).trans (hc j hj)⟩⟩
mutual
theorem NdC.stays {B:Nat→Prop}{w w':World}(hs:Stays B w w'): ∀(n:Nd) (c0 c1 c2:Value),NdC B w n c0 c1 c2→NdC B w' n c0 c1 c2
 | .mk t b ks,c0,c1,c2,h=>by
  unfold NdC at h⊢
  obtain⟨e0,ht,⟨A,la,ca,e1,h1,h2,h3,hB⟩,K,ck,e2,h4,h5,h6⟩:=h
  refine⟨e0,ht,⟨A,la,ca,e1,h1,h2,bys_stays hs h3 hB,hB⟩,K,ck,e2,h4,h5,fun hk=>?_⟩
  obtain⟨g,off,eK,hg,hBg,hks⟩:=h6 hk
  exact⟨g,off,eK,Nat.lt_of_lt_of_le hg hs.1,hBg,KidsC.stays hs hg hBg ks off hks⟩
theorem KidsC.stays {B:Nat→Prop}{w w':World}(hs:Stays B w w'){g:Nat}(hg:g<w.heap.size)(hB:B g): ∀(ks:List Nd) (off:Nat),KidsC B w g off ks→KidsC B w' g off ks
 | [],_,_=>by unfold KidsC;trivial
 |k::ks,off,h=>by
  unfold KidsC at h⊢
  obtain⟨⟨c0,c1,c2,h0,h1,h2,hk⟩,hr⟩:=h
  exact⟨⟨c0,c1,c2,(hs.2 ⟨g,off,none⟩ hB hg).trans h0,(hs.2 ⟨g,off+1,none⟩ hB hg).trans h1,(hs.2 ⟨g,off+2,none⟩ hB hg).trans h2,NdC.stays hs k c0 c1 c2 hk⟩,KidsC.stays hs hg hB ks (off+3) hr⟩
end
theorem stays_below {w w':World}(hb:Below w.heap.size w w')(B:Nat→Prop):Stays B w w':=⟨hb.size,fun p _ hp=>hb.cell hp⟩
theorem NdC.below {B:Nat→Prop}{w w':World}(hb:Below w.heap.size w w')(n:Nd)(c0 c1 c2:Value)(h:NdC B w n c0 c1 c2):NdC B w' n c0 c1 c2:=NdC.stays (stays_below hb B) n c0 c1 c2 h
theorem KidsC.below {B:Nat→Prop}{w w':World}(hb:Below w.heap.size w w'){g:Nat}(hg:g<w.heap.size)(hB:B g)(ks:List Nd)(off:Nat)(h:KidsC B w g off ks):KidsC B w' g off ks:=KidsC.stays (stays_below hb B) hg hB ks off h
theorem KidsC.at {B:Nat→Prop}{w:World}{g:Nat}: ∀{ks:List Nd} {off:Nat},KidsC B w g off ks→∀(i:Nat) (hi:i<ks.length),∃c0 c1 c2,w.cell? ⟨g,off+i*3,none⟩=some c0∧w.cell? ⟨g,off+i*3+1,none⟩=some c1∧w.cell? ⟨g,off+i*3+2,none⟩=some c2∧NdC B w ks[i] c0 c1 c2
 | [],_,_,i,hi=>absurd hi (by simp)
 |k::ks,off,h,0,_=>by unfold KidsC at h;rw[Nat.zero_mul,Nat.add_zero];exact h.1
 |k::ks,off,h,i+1,hi=>by
  unfold KidsC at h
  have:=KidsC.at h.2 i (by simpa using hi)
  rw[show off+3+i*3=off+ (i+1)*3 by omega] at this
  simpa using this
theorem KidsC.of {B:Nat→Prop}{w:World}{g:Nat}: ∀{ks:List Nd} {off:Nat},(∀(i:Nat) (hi:i<ks.length),∃c0 c1 c2,w.cell? ⟨g,off+i*3,none⟩=some c0∧w.cell? ⟨g,off+i*3+1,none⟩=some c1∧w.cell? ⟨g,off+i*3+2,none⟩=some c2∧NdC B w ks[i] c0 c1 c2)→KidsC B w g off ks
 | [],_,_=>by unfold KidsC;trivial
 |k::ks,off,h=>by
  unfold KidsC
  refine⟨by have:=h 0 (by simp);rw[Nat.zero_mul,Nat.add_zero] at this;exact this,KidsC.of fun i hi=>?_⟩
  have:=h (i+1) (by simpa using hi)
  rw[show off+ (i+1)*3=off+3+i*3 by omega] at this
  simpa using this
def NdV (B:Nat→Prop)(w:World)(n:Nd)(v:Value):Prop:=∃c0 c1 c2,v=.agg #[c0,c1,c2]∧NdC B w n c0 c1 c2
theorem NdV.stays {B:Nat→Prop}{w w':World}{n:Nd}{v:Value}(h:NdV B w n v)(hs:Stays B w w'):NdV B w' n v:=by
 obtain⟨c0,c1,c2,e,hc⟩:=h
 exact⟨c0,c1,c2,e,NdC.stays hs n c0 c1 c2 hc⟩
theorem NdV.below {B:Nat→Prop}{w w':World}{n:Nd}{v:Value}(h:NdV B w n v)(hb:Below w.heap.size w w'):NdV B w' n v:=h.stays (stays_below hb B)
mutual
theorem NdC.mono {B B':Nat→Prop}{w:World}(hB: ∀g,B g→B' g): ∀(n:Nd) (c0 c1 c2:Value),NdC B w n c0 c1 c2→NdC B' w n c0 c1 c2
 | .mk t b ks,c0,c1,c2,h=>by
  unfold NdC at h⊢
  obtain⟨e0,ht,⟨A,la,ca,e1,h1,h2,h3,h4⟩,K,ck,e2,h5,h6,h7⟩:=h
  refine⟨e0,ht,⟨A,la,ca,e1,h1,h2,h3,fun hl g off sp e=>hB _ (h4 hl g off sp e)⟩,K,ck,e2,h5,h6,fun hk=>?_⟩
  obtain⟨g,off,eK,hg,hBg,hks⟩:=h7 hk
  exact⟨g,off,eK,hg,hB _ hBg,KidsC.mono hB ks off hks⟩
theorem KidsC.mono {B B':Nat→Prop}{w:World}(hB: ∀g,B g→B' g){g:Nat}: ∀(ks:List Nd) (off:Nat),KidsC B w g off ks→KidsC B' w g off ks
 | [],_,_=>by unfold KidsC;trivial
 |k::ks,off,h=>by
  unfold KidsC at h⊢
  obtain⟨⟨c0,c1,c2,h0,h1,h2,hk⟩,hr⟩:=h
  exact⟨⟨c0,c1,c2,h0,h1,h2,NdC.mono hB k c0 c1 c2 hk⟩,KidsC.mono hB ks (off+3) hr⟩
end
theorem NdV.mono {B B':Nat→Prop}{w:World}{n:Nd}{v:Value}(h:NdV B w n v)(hB: ∀g,B g→B' g):NdV B' w n v:=by
 obtain⟨c0,c1,c2,e,hc⟩:=h
 exact⟨c0,c1,c2,e,NdC.mono hB n c0 c1 c2 hc⟩
mutual
theorem NdC.bound {B:Nat→Prop}{w:World}: ∀(n:Nd) (c0 c1 c2:Value),NdC B w n c0 c1 c2→NdC (fun g=>B g∧g<w.heap.size) w n c0 c1 c2
 | .mk t b ks,c0,c1,c2,h=>by
  unfold NdC at h⊢
  obtain⟨e0,ht,⟨A,la,ca,e1,h1,h2,h3,h4⟩,K,ck,e2,h5,h6,h7⟩:=h
  refine⟨e0,ht,⟨A,la,ca,e1,h1,h2,h3,fun hl g off sp e=>⟨h4 hl g off sp e,?_⟩⟩,K,ck,e2,h5,h6,fun hk=>?_⟩
  ·obtain⟨b',off',e',hb',_⟩:=h3.2.2 hl
   rw[e'] at e;cases e;exact hb'
  ·obtain⟨g,off,eK,hg,hBg,hks⟩:=h7 hk
   exact⟨g,off,eK,hg,⟨hBg,hg⟩,KidsC.bound ks off hks⟩
theorem KidsC.bound {B:Nat→Prop}{w:World}{g:Nat}: ∀(ks:List Nd) (off:Nat),KidsC B w g off ks→KidsC (fun g=>B g∧g<w.heap.size) w g off ks
 | [],_,_=>by unfold KidsC;trivial
 |k::ks,off,h=>by
  unfold KidsC at h⊢
  obtain⟨⟨c0,c1,c2,h0,h1,h2,hk⟩,hr⟩:=h
  exact⟨⟨c0,c1,c2,h0,h1,h2,NdC.bound k c0 c1 c2 hk⟩,KidsC.bound ks (off+3) hr⟩
end
theorem NdC.below2 {B S:Nat→Prop}{w w':World}(hs:Stays B w w'){n:Nd}{c0 c1 c2:Value}(h:NdC B w n c0 c1 c2)(hS: ∀g,B g→g<w.heap.size→S g):NdC S w' n c0 c1 c2:=
 NdC.mono (fun g h=>hS g h.1 h.2) n c0 c1 c2 (NdC.stays ⟨hs.1,fun p hp hl=>hs.2 p hp.1 hl⟩ n c0 c1 c2 (NdC.bound n c0 c1 c2 h))
mutual
def sameN:Nd→Nd→Bool
 | .mk t b ks,m=>decide (t=m.tag) && decide (b=m.body) && decide (ks.length=m.kids.length) && sameL ks m.kids
def sameL:List Nd→List Nd→Bool
 | [],_=>true
 |_::_,[]=>true
 |k::ks,m::ms=>sameN k m && sameL ks ms
end
mutual
theorem sameN_refl: ∀n:Nd,sameN n n=true
 | .mk t b ks=>by unfold sameN;simp[Nd.tag,Nd.body,Nd.kids,sameL_refl ks]
theorem sameL_refl: ∀ks:List Nd,sameL ks ks=true
 | []=>by unfold sameL;rfl
 |k::ks=>by unfold sameL;rw[sameN_refl k,sameL_refl ks];rfl
end
theorem sameL_drop {ks ms:List Nd}(i:Nat)(hi:i<ks.length)(hl:ks.length=ms.length):sameL (ks.drop i) (ms.drop i)=(sameN ks[i] (ms[i]'(by omega)) && sameL (ks.drop (i+1)) (ms.drop (i+1))):=by
 rw[List.drop_eq_getElem_cons hi,List.drop_eq_getElem_cons (by omega:i<ms.length)]
 conv=>lhs;unfold sameL
mutual
def szN:Nd→Nat
 | .mk _ _ ks=>szL ks+1
def szL:List Nd→Nat
 | []=>0
 |k::ks=>szN k+szL ks
end
theorem szL_mem: ∀{ks:List Nd} {k:Nd},k∈ks→szN k≤szL ks
 | [],k,h=>by simp at h
 |x::ks,k,h=>by
  unfold szL
  rcases List.mem_cons.1 h with rfl |h
  ·omega
  ·have:=szL_mem h;omega
end Go.Proofs.YtkjkhoglkpepiaaGreatDoor.ndc
namespace Go.Proofs.YtkjkhoglkpepiaaGreatDoor.tlvc
open Go.RowKit Go.ChangeShapes Go.WideShapes Go.ChangeAt
def ivals (xs:List Int):List Value:=xs.map (Value.int .i64)
theorem ivals_length (xs:List Int):(ivals xs).length=xs.length:=List.length_map ..
theorem ivals_append (xs ys:List Int):ivals (xs++ys)=ivals xs++ivals ys:=List.map_append ..
theorem ivals_one (xs:List Int): ∀u∈ivals xs,u.oneCell'=true:=ints_oneCell .i64 xs
def Fit8 (xs:List Int):Prop:=∀x∈xs, -9223372036854775808≤x∧x≤9223372036854775807
theorem Fit8.getD {xs:List Int}(h:Fit8 xs)(j:Nat): -9223372036854775808≤xs.getD j 0∧xs.getD j 0≤9223372036854775807:=by
 rcases Nat.lt_or_ge j xs.length with hj |hj
 ·rw[List.getD_eq_getElem?_getD,List.getElem?_eq_getElem hj];exact h _ (List.getElem_mem hj)
 ·rw[List.getD_eq_getElem?_getD,List.getElem?_eq_none hj];exact⟨by decide,by decide⟩
theorem Fit8.app {xs ys:List Int}(h:Fit8 xs)(k:Fit8 ys):Fit8 (xs++ys):=fun x hx=>(List.mem_append.1 hx).elim (h x) (k x)
theorem Fit8.take {xs:List Int}(h:Fit8 xs)(k:Nat):Fit8 (xs.take k):=fun x hx=>h x (List.mem_of_mem_take hx)
theorem Fit8.drop {xs:List Int}(h:Fit8 xs)(k:Nat):Fit8 (xs.drop k):=fun x hx=>h x (List.mem_of_mem_drop hx)
def Ins (w:World)(A:Option Addr)(n:Nat)(xs:List Int):Prop:=
 xs.length=n∧Fit8 xs∧(0<n→∃b off,A=some ⟨b,off,none⟩∧b<w.heap.size∧∀j,j<n→w.cell? ⟨b,off+j,none⟩=some (.int .i64 (xs.getD j 0)))
section
variable {w w':World} {A:Option Addr} {n:Nat} {xs:List Int}
theorem Ins.nil_ (w:World)(A:Option Addr):Ins w A 0 []:=⟨rfl,(fun _ h=>absurd h (by simp)),fun h=>absurd h (by omega)⟩
theorem Ins.len (h:Ins w A n xs):xs.length=n:=h.1
theorem Ins.fit (h:Ins w A n xs):Fit8 xs:=h.2.1
theorem Ins.keep (h:Ins w A n xs)(hs:w.heap.size≤w'.heap.size)(hk: ∀p:Addr,p.block<w.heap.size→w'.cell? p=w.cell? p):Ins w' A n xs:=
 ⟨h.1,h.2.1,fun hn=>by
   obtain⟨b,off,e,hb,hc⟩:=h.2.2 hn
   exact⟨b,off,e,by omega,fun j hj=>(hk _ hb).trans (hc j hj)⟩⟩
theorem Ins.below (h:Ins w A n xs)(hb:Below w.heap.size w w'):Ins w' A n xs:=h.keep hb.size fun _ hp=>hb.cell hp
theorem Ins.alloc (h:Ins w A n xs)(o:Obj):Ins (w.alloc o) A n xs:=h.below ((br_ _ _).alloc (lr_ _) o)
theorem Ins.drewN (h:Ins w A n xs)(q:Nat):Ins (w.drewN q) A n xs:=h
theorem Ins.own {base:Nat}{e:TypeId}{c:Nat}(h:w.ownsRow base e 1 (.slice A n c) n (ivals xs))(hf:Fit8 xs):Ins w A n xs:=by
 have hl:xs.length=n:=by have:=h.1;rw[ivals_length] at this;omega
 refine⟨hl,hf,fun hn=>?_⟩
 rcases h.2 with ⟨_,h0⟩ | ⟨g,cap,cur,hv,_,hg,_⟩
 ·omega
 ·have hA:A=some ⟨g,0,none⟩∧cap=c:=by simp only[Value.slice.injEq,true_and] at hv;exact⟨hv.1,hv.2.symm⟩
  obtain⟨rfl,rfl⟩:=hA
  refine⟨g,0,rfl,(Array.getElem?_eq_some_iff.1 hg).1,fun j hj=>?_⟩
  rw[Nat.zero_add,h.cellAt j (by omega)]
  simp[ivals,List.getD_eq_getElem?_getD,List.getElem?_eq_getElem (show j<xs.length by omega)]
theorem Ins.cut (h:Ins w A n xs){k cap:Nat}(hk:k≤n)(hc:n≤cap):Ins w (if cap=k then A else A.map (·.add k)) (n - k) (xs.drop k):=by
 refine⟨by rw[List.length_drop,h.1],h.2.1.drop k,fun hn=>?_⟩
 obtain⟨b,off,rfl,hb,hcell⟩:=h.2.2 (by omega)
 rw[if_neg (by omega)]
 refine⟨b,off+k,by simp[Addr.add_lit],hb,fun j hj=>?_⟩
 rw[Nat.add_assoc,hcell (k+j) (by omega)]
 simp[List.getD_eq_getElem?_getD,List.getElem?_drop]
end
section
variable {P:Program} (w:World)
theorem run_iapp (base:Nat)(t ty e:TypeId)(i:TypeInfo)(z:Value)(ht:P.underlying t=some (.slice e))(hi:P.info? e=some i)(hz:i.zero=some z)
 (hsize:i.size=1) (hby:i.bytes=8) (hzs:z.cells.size=1)
 (v:Value) (n:Nat) (xs:List Value) (hown:w.ownsRow base e 1 v n xs)
 (A:Option Addr) (m c:Nat) (ys:List Int) (hb:Ins w A m ys) (hbnd:n+m≤17592186044416) (hbase:base≤w.heap.size):
 ∃v' w',(Builtin.append_ #[t,t] ty #[v,.slice A m c]).run P w=.ok v' w'∧w'.ownsRow base e 1 v' (n+m) (xs++ivals ys)∧w.grownBy w' v.ownBlock∧(v'=.slice none 0 0↔v=.slice none 0 0∧m=0):=by
 have hmax:n+m≤maxLen:=by unfold maxLen;omega
 rcases A with _ |ad
 ·have hm:m=0:=by
   rcases Nat.eq_zero_or_pos m with h0 |h0
   ·exact h0
   ·obtain⟨b,off,h,_⟩:=hb.2.2 h0
    cases h
  subst hm
  have hn:ys=[]:=List.eq_nil_of_length_eq_zero hb.1
  subst hn
  exact⟨v,w,run_app_nil w base t ty e i ht hi v n xs hown c,by simpa[ivals] using hown,World.grownBy.refl w _,by simp⟩
 ·have hcells: ∀j u,(ivals ys)[j]? =some u→w.cell? (ad.add j)=some u:=by
   intro j u hu
   have hj:j<ys.length:=by
    have:=(List.getElem?_eq_some_iff.1 hu).1
    rwa[ivals_length] at this
   obtain⟨b,off,h,_,hc⟩:=hb.2.2 (by have:=hb.1;omega)
   cases h
   rw[Addr.add_lit,hc j (by have:=hb.1;omega),←hu]
   simp[ivals,List.getD_eq_getElem?_getD,List.getElem?_eq_getElem hj]
  obtain⟨v',w',h1,h2,h3,h4⟩:=_root_.Go.run_append_own (P:=P) w base t ty e i z 1 8 ht hi hz hsize hby hzs (by decide) v n xs hown ad m c (ivals ys) (by rw[ivals_length,hb.1];omega) hcells (ivals_one ys) hmax (by omega) hbase
  exact⟨v',w',h1,h2,h3,h4⟩
theorem wpl_iapp {w:World}{ops:Array Oper}{rest:List Oper}{o:Oper}{a:Act}{Q:Exit→Act→World→Prop}(hgd:o.guard=none)(s x:Operand)(t:TypeId)
 (ho:o.op=.call {callee:=.builtin .append,args:=#[s,x],argTypes:=#[t,t]})
 (base:Nat) (e:TypeId) (i:TypeInfo) (z:Value) (ht:P.underlying t=some (.slice e)) (hi:P.info? e=some i) (hz:i.zero=some z)
 (hsize:i.size=1) (hby:i.bytes=8) (hzs:z.cells.size=1)
 (v:Value) (n:Nat) (xs:List Value) (hs:a.eval s=v) (hown:w.ownsRow base e 1 v n xs)
 (A:Option Addr) (m c:Nat) (ys:List Int) (hx:a.eval x=.slice A m c) (hb:Ins w A m ys) (hbnd:n+m≤17592186044416) (hbase:base≤w.heap.size)
 (h: ∀v' w',w'.ownsRow base e 1 v' (n+m) (xs++ivals ys)→w.grownBy w' v.ownBlock→(v'=.slice none 0 0↔v=.slice none 0 0∧m=0)→wpList P ops Q rest (a.put o.dst v') w'):wpList P ops Q (o::rest) a w:=by
 refine wpList_plain hgd fun K hK=>?_
 obtain⟨v',w',hrun,h2,h3,h4⟩:=run_iapp (P:=P) w base t o.type e i z ht hi hz hsize hby hzs v n xs hown A m c ys hb hbnd hbase
 unfold Oper.wp
 simp[execOp,ho,resolve,invoke,builtin,hs,hx,hrun,Result.andThen]
 exact hK _ _ (h v' w' h2 h3 h4)
end
section
variable {H:Type} {enc:TypeId × Value→H} {P:Program} {W:World} {held:Bool}
end
end Go.Proofs.YtkjkhoglkpepiaaGreatDoor.tlvc
namespace Go.Proofs.YtkjkhoglkpepiaaGreatDoor.tlvc
open Go.RowKit
section
variable {P:Program}
theorem app_gen (w:World)(base:Nat)(t ty e:TypeId)(i:TypeInfo)(z:Value)(size bytes:Nat)(ht:P.underlying t=some (.slice e))(hi:P.info? e=some i)(hz:i.zero=some z)
 (hsize:i.size=size) (hby:i.bytes=bytes) (hzs:z.cells.size=size) (hsz:0<size)
 (v:Value) (n:Nat) (xs:List Value) (hown:w.ownsRow base e size v n xs)
 (a:Addr) (m c:Nat) (news:List Value) (hl:news.length=m*size) (hnews: ∀j u,news[j]? =some u→w.cell? (a.add j)=some u) (h1: ∀u∈news,u.oneCell'=true)
 (h63:n+m≤maxLen) (hbytes:(n+m)*bytes≤140737488355328) (hbase:base≤w.heap.size):
 ∃v' w',(Builtin.append_ #[t,t] ty #[v,.slice (some a) m c]).run P w=.ok v' w'∧w'.ownsRow base e size v' (n+m) (xs++news)∧w.grownBy w' v.ownBlock∧
  (v'=.slice none 0 0↔v=.slice none 0 0∧m=0)∧(v'.ownBlock=v.ownBlock∨ ∃g',v'.ownBlock=some g'∧w.heap.size≤g'):=by
 obtain⟨v',w',hr,hown',hgr,hnil⟩:=_root_.Go.run_append_own (P:=P) w base t ty e i z size bytes ht hi hz hsize hby hzs hsz v n xs hown a m c news hl hnews h1 h63 hbytes hbase
 refine⟨v',w',hr,hown',hgr,hnil,?_⟩
 rcases hown.2 with ⟨rfl,rfl⟩ | ⟨gv,cap,cur,rfl,hbg,hg,hnc,hcm,hcs,htake⟩
 ·have hx:xs=[]:=List.eq_nil_of_length_eq_zero (by simpa using hown.1)
  subst hx
  obtain⟨v2,w2,hr2,hown2,_⟩:=_root_.Go.run_append_own (P:=P) w w.heap.size t ty e i z size bytes ht hi hz hsize hby hzs hsz (.slice none 0 0) 0 [] (World.ownsRow_nil _ _ _ _) a m c news hl hnews h1 h63 hbytes (lr_ _)
  rw[hr] at hr2
  obtain⟨rfl,rfl⟩:=Result.ok.inj hr2
  rcases hown2.2 with ⟨rfl,_⟩ | ⟨g',_,_,rfl,hb',_⟩
  ·exact .inl rfl
  ·exact .inr ⟨g',rfl,hb'⟩
 ·subst hsize
  by_cases hroom:n+m≤cap
  ·have hr2:=run_append_room (P:=P) w t ty e i ht hi gv n cap cur hg a m c news hl hnews h1 hroom (by rw[hcs,hl,←Nat.add_mul];exact Nat.mul_le_mul_right _ hroom)
   rw[hr] at hr2
   obtain⟨rfl,_⟩:=Result.ok.inj hr2
   exact .inl rfl
  ·have hfit:Builtin.nextslicecap (n+m) cap*i.bytes≤281474976710656:=by
    have:=nextslicecap_le (need:=n+m) (old:=cap) (by omega)
    have h2:=Nat.mul_le_mul_right i.bytes this
    rw[hby] at h2⊢
    have h3:(2* (n+m))*bytes=2* ((n+m)*bytes):=by rw[Nat.mul_assoc]
    omega
   have holds: ∀j u,xs[j]? =some u→w.cell? ((⟨gv,0,none⟩:Addr).add j)=some u:=hown.cells (g:=gv) rfl
   have hr2:=run_append_grow (P:=P) w t ty e i z ht hi hz ⟨gv,0,none⟩ n cap xs hown.1 holds a m c news hl hnews (by omega) (by unfold maxLen at h63;omega) hfit
   rw[hr] at hr2
   obtain⟨rfl,_⟩:=Result.ok.inj hr2
   exact .inr ⟨_,rfl,lr_ _⟩
theorem wpl_append {w w':World}{ops:Array Oper}{rest:List Oper}{o:Oper}{a:Act}{Q:Exit→Act→World→Prop}(hgd:o.guard=none)(s x:Operand)(t:TypeId)
 (ho:o.op=.call {callee:=.builtin .append,args:=#[s,x],argTypes:=#[t,t]}) (v vx v':Value) (hs:a.eval s=v) (hx:a.eval x=vx)
 (hrun:(Builtin.append_ #[t,t] o.type #[v,vx]).run P w=.ok v' w') (h:wpList P ops Q rest (a.put o.dst v') w'):wpList P ops Q (o::rest) a w:=by
 refine wpList_plain hgd fun K hK=>?_
 unfold Oper.wp
 simp[execOp,ho,resolve,invoke,builtin,hs,hx,hrun,Result.andThen]
 exact hK _ _ h
end
end Go.Proofs.YtkjkhoglkpepiaaGreatDoor.tlvc
