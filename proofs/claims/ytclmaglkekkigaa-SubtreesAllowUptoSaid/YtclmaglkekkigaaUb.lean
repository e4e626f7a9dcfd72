/- Names, lists of names and a space as arguments, where what comes in is small. Nothing here names the program. -/
import Derived.Test.YtclmaglkekkigaaUs
import Derived.Test.YtclmaglkekkigaaAa
namespace Go.Proofs.Ytclmaglkekkigaa.nmc
open Go.RowKit Go.Proofs.Ytclmaglkekkigaa.tlvc Go.Proofs.Ytclmaglkekkigaa.ndc Go.Proofs.Ytclmaglkekkigaa.dtc
set_option linter.unusedVariables false
theorem at_ofS {w:World}{d:Dt}{cs:List Value}(hs:IsSh atS d)(h:Lies (fun _=>True) w d cs)(hf:smallDt d): ∃a:At,atE.hold (fun _=>True) w a cs∧(a.text.size≤1048576∧a.oid.length≤1048576):=by
  unfold atS IsSh at hs
  obtain⟨ds,rfl,hs⟩:=hs
  match ds,hs with
  | [d0,d1],hs=>
    unfold IsShs at hs
    obtain⟨s0,hs⟩:=hs
    unfold IsShs at hs
    obtain⟨s1,_⟩:=hs
    unfold IsSh at s0 s1
    obtain⟨l,rfl,hl⟩:=s0
    obtain⟨t,rfl⟩:=s1
    unfold Lies LiesAll at h
    obtain⟨a,b,rfl,h0,h⟩:=h
    unfold LiesAll at h
    obtain⟨a1,b1,rfl,h1,h⟩:=h
    unfold LiesAll at h
    subst h
    unfold Lies at h0 h1
    obtain⟨A,c,rfl,k1,k2,k3⟩:=h0
    obtain⟨rfl,k4⟩:=h1
    obtain⟨xs,hi⟩:=ins_of (A:=A) (c:=c) hl k3
    unfold smallDt smallDts at hf
    obtain⟨ho,hf⟩:=hf
    unfold smallDts at hf
    have hf:=hf.1
    unfold smallDt at hf
    exact⟨⟨xs,t⟩,⟨_,_,rfl,A,l.length,c,rfl,rfl,k1,k2,hi,fun _ _ _ _ _=>trivial,k4⟩,hf,by have h5:xs.length=l.length:=hi.len;show xs.length≤1048576;have h6:=ho.1;omega⟩
  | [],hs=>unfold IsShs at hs;exact hs.elim
  | [_],hs=>unfold IsShs at hs;obtain⟨_,hs⟩:=hs;unfold IsShs at hs;exact hs.elim
  |_::_::_::_,hs=>unfold IsShs at hs;obtain⟨_,hs⟩:=hs;unfold IsShs at hs;obtain⟨_,hs⟩:=hs;unfold IsShs at hs;exact hs.elim
theorem list_ofS {α:Type}[Inhabited α]{E:El α}{s:Sh}{w:World}{P:α→Prop}(one: ∀(d:Dt) (cs:List Value),IsSh s d→Lies (fun _=>True) w d cs→smallDt d→∃a:α,E.hold (fun _=>True) w a cs∧P a)(hsz:s.sz=E.sz){l:List Dt}(hs: ∀x∈l,IsSh s x)(hf:smallDts l){A:Option Addr}
    (hr:0<l.length→∃g off,A=some ⟨g,off,none⟩∧g<w.heap.size∧LiesRow (fun _=>True) w g s.sz off l): ∃xs:List α,xs.length=l.length∧Lst E (fun _=>True) w A xs∧∀x∈xs,P x:=by
  by_cases h0:0<l.length
  · obtain⟨g,off,e,hg,hL⟩:=hr h0
    have each: ∀i,i<l.length→∃a:α,(∃cs:List Value,(∀j u,cs[j]? =some u→w.cell? ⟨g,off+i*E.sz+j,none⟩=some u)∧E.hold (fun _=>True) w a cs)∧P a:=fun i hi=>by
      obtain⟨cs,k0,k1,k2⟩:=hL.at i hi
      obtain⟨a,k3,k4⟩:=one l[i] cs (hs _ (List.getElem_mem _)) k2 (smallDts_all.1 hf _ (List.getElem_mem _))
      exact⟨a,⟨cs,by rw[←hsz];exact k1,k3⟩,k4⟩
    obtain⟨f,hf⟩:=Go.Deep.choose_lt each
    refine⟨(List.range l.length).map f,by simp,fun _=>⟨g,off,e,hg,trivial,fun i hi=>?_⟩,fun x hx=>?_⟩
    · obtain⟨⟨cs,k1,k2⟩,_⟩:=hf i (by simpa using hi)
      exact⟨cs,k1,by simpa using k2⟩
    · obtain⟨i,hi,rfl⟩:=List.mem_map.1 hx
      exact(hf i (List.mem_range.1 hi)).2
  · exact⟨[],by simp;omega,Lst.nil _ _ _,fun x hx=>by simp at hx⟩
theorem ls_ofS {α:Type}[Inhabited α]{E:El α}{s:Sh}{w:World}{P:α→Prop}(one: ∀(d:Dt) (cs:List Value),IsSh s d→Lies (fun _=>True) w d cs→smallDt d→∃a:α,E.hold (fun _=>True) w a cs∧P a)(hsz:s.sz=E.sz){d:Dt}{cs:List Value}(hs:IsSh (.row s) d)(h:Lies (fun _=>True) w d cs)(hf:smallDt d):
    ∃xs:List α,(lsE E).hold (fun _=>True) w xs cs∧(xs.length≤1048576∧∀x∈xs,P x):=by
  unfold IsSh at hs
  obtain⟨l,rfl,hl⟩:=hs
  unfold Lies at h
  obtain⟨A,c,rfl,k1,k2,k3⟩:=h
  unfold smallDt at hf
  obtain⟨xs,h1,h2,h3⟩:=list_ofS one hsz hl hf.2 (A:=A) (fun hn=>by
    obtain⟨g,off,e,hg,_,hr⟩:=k3 hn
    exact⟨g,off,e,hg,hr⟩)
  exact⟨xs,⟨_,rfl,A,c,by rw[h1],by rw[h1];exact k1,k2,h2⟩,by rw[h1];exact hf.1,h3⟩
/-- A name is small. -/
def SmN (a:List At):Prop:=a.length≤1048576∧∀x∈a,x.text.size≤1048576∧x.oid.length≤1048576
def SmL (l:List (List At)):Prop:=l.length≤1048576∧∀a∈l,SmN a
def SmP (l:List (List (List At))):Prop:=l.length≤1048576∧∀a∈l,SmL a
theorem nm_ofS {w:World}{d:Dt}{cs:List Value}(hs:IsSh (.row atS) d)(h:Lies (fun _=>True) w d cs)(hf:smallDt d): ∃a:List At,(lsE atE).hold (fun _=>True) w a cs∧SmN a:=
  ls_ofS (P:=fun x:At=>x.text.size≤1048576∧x.oid.length≤1048576) (fun d cs h1 h2 h3=>at_ofS h1 h2 h3) rfl hs h hf
theorem nl_ofS {w:World}{d:Dt}{cs:List Value}(hs:IsSh (.row (.row atS)) d)(h:Lies (fun _=>True) w d cs)(hf:smallDt d): ∃a:List (List At),(lsE (lsE atE)).hold (fun _=>True) w a cs∧SmL a:=
  ls_ofS (P:=SmN) (fun d cs h1 h2 h3=>nm_ofS h1 h2 h3) rfl hs h hf
/-- A space: the lists permitted, each in one cell, and the list excluded. -/
structure SpC (S:Nat→Prop) (w:World) (P:List (List (List At))) (X:List (List At)) (c0 c1:Value):Prop where
  permit:LsC (lsE (lsE atE)) S w P c0
  exclude:LsC (lsE atE) S w X c1
theorem SpC.below {S:Nat→Prop}{w w':World}{P:List (List (List At))}{X:List (List At)}{c0 c1:Value}(h:SpC S w P X c0 c1)(hb:Below w.heap.size w w'):SpC S w' P X c0 c1:=⟨h.permit.below hb,h.exclude.below hb⟩
theorem SpC.shape {S:Nat→Prop}{w:World}{P:List (List (List At))}{X:List (List At)}{c0 c1:Value}(h:SpC S w P X c0 c1): ∃A a B b,c0=.slice A P.length a∧c1=.slice B X.length b:=by
  obtain⟨A,a,e,_⟩:=h.permit
  obtain⟨B,b,f,_⟩:=h.exclude
  exact⟨A,a,B,b,e,f⟩
abbrev spS:List Sh:=[.row (.row (.row atS)),.row (.row atS)]
theorem sp_ofS {w:World}{l:List Dt}{c0 c1:Value}(hs:IsShs spS l)(h:LiesAll (fun _=>True) w l [c0,c1])(hf:smallDts l):
    ∃P X,SpC (fun _=>True) w P X c0 c1∧SmP P∧SmL X:=by
  unfold spS at hs
  match l,hs with
  | [d0,d1],hs=>
    unfold IsShs at hs
    obtain⟨s0,hs⟩:=hs
    unfold IsShs at hs
    obtain⟨s1,_⟩:=hs
    unfold smallDts at hf
    obtain⟨f0,hf⟩:=hf
    unfold smallDts at hf
    obtain⟨f1,_⟩:=hf
    unfold LiesAll at h
    obtain⟨a,b,e,h0,h⟩:=h
    unfold LiesAll at h
    obtain⟨a1,b1,rfl,h1,h⟩:=h
    unfold LiesAll at h
    subst h
    obtain⟨P,⟨x0,e0,k0⟩,z0⟩:=ls_ofS (E:=lsE (lsE atE)) (P:=SmL) (fun d cs h1 h2 h3=>nl_ofS h1 h2 h3) rfl s0 h0 f0
    obtain⟨X,⟨x1,e1,k1⟩,z1⟩:=nl_ofS s1 h1 f1
    subst e0 e1
    simp only[List.singleton_append,List.append_nil,List.cons.injEq,and_true] at e
    obtain⟨rfl,rfl⟩:=e
    exact⟨P,X,⟨k0,k1⟩,z0,z1⟩
  | [],hs=>unfold IsShs at hs;exact hs.elim
  | [_],hs=>unfold IsShs at hs;obtain⟨_,hs⟩:=hs;unfold IsShs at hs;exact hs.elim
  |_::_::_::_,hs=>unfold IsShs at hs;obtain⟨_,hs⟩:=hs;unfold IsShs at hs;obtain⟨_,hs⟩:=hs;unfold IsShs at hs;exact hs.elim
/-- As the frame of a law gives them: a name, a list of names, a space. -/
theorem arg_nm {w:World}{v:Value}{x:Dt}(hs:IsSh (.row atS) x)(h:Lies (fun _=>True) w x v.cells.toList)(hf:smallDt x){A:Option Addr}{l c:Nat}(hv:v=.slice A l c): ∃a:List At,LsC atE (fun _=>True) w a (.slice A l c)∧SmN a:=by
  subst hv
  obtain⟨a,⟨c0,e,h1⟩,h2⟩:=nm_ofS hs h hf
  have e:Value.slice A l c=c0:=(one_cell e).1
  subst e
  exact⟨a,h1,h2⟩
theorem arg_nl {w:World}{v:Value}{x:Dt}(hs:IsSh (.row (.row atS)) x)(h:Lies (fun _=>True) w x v.cells.toList)(hf:smallDt x){A:Option Addr}{l c:Nat}(hv:v=.slice A l c): ∃a:List (List At),LsC (lsE atE) (fun _=>True) w a (.slice A l c)∧SmL a:=by
  subst hv
  obtain⟨a,⟨c0,e,h1⟩,h2⟩:=nl_ofS hs h hf
  have e:Value.slice A l c=c0:=(one_cell e).1
  subst e
  exact⟨a,h1,h2⟩
theorem arg_sp {w:World}{v:Value}{x:Dt}(hs:IsSh (.agg spS) x)(h:Lies (fun _=>True) w x v.cells.toList)(hf:smallDt x)(hl:v.cells.toList.length=2){cs:Array Value}(hv:v=.agg cs): ∃A l c B m d,v=.agg #[.slice A l c,.slice B m d]∧∃P X,SpC (fun _=>True) w P X (.slice A l c) (.slice B m d)∧SmP P∧SmL X:=by
  subst hv
  obtain⟨cs⟩:=cs
  have hl:cs.length=2:=hl
  have h:Lies (fun _=>True) w x cs:=h
  match cs,hl,h with
  | [c0,c1],_,h=>
    unfold IsSh at hs
    obtain⟨ds,rfl,hs⟩:=hs
    unfold Lies at h
    unfold smallDt at hf
    obtain⟨P,X,h1,h2,h3⟩:=sp_ofS hs h hf
    obtain⟨A,a,B,b,rfl,rfl⟩:=h1.shape
    exact⟨A,_,a,B,_,b,rfl,P,X,h1,h2,h3⟩
end Go.Proofs.Ytclmaglkekkigaa.nmc
