/- The document's Kids, plain and OidOf. The document's reading Extensions, read from a node: as the program tells them, and -/
import Derived.Test.YtkjkhoglkpepiaaGreatDoorYb
import Derived.Test.YtkjkhoglkpepiaaGreatDoorId
import Derived.Lib.QuietBelow
import Derived.BigQuiet
import Derived.Test.YtkjkhoglkpepiaaGreatDoorYc
import Derived.Test.YtkjkhoglkpepiaaGreatDoorYg
import Derived.Test.YtkjkhoglkpepiaaGreatDoorYa
import Derived.Test.YtkjkhoglkpepiaaGreatDoorIf
import Derived.Test.YtkjkhoglkpepiaaGreatDoorPe
set_option linter.unusedVariables false
set_option linter.unusedSimpArgs false
namespace Go.Proofs.YtkjkhoglkpepiaaGreatDoor.nmc
open Go.RowKit tlvc tlvd ndc txc txm intc intm
theorem box3_ {W0 W:World}(h:Below W0.heap.size W0 W){g:Nat}{a b c:Value}{T:TypeId}{fr:Nat × Nat}(hq:W0.heap[g]? =some (.cells #[a,b,c] T fr)):W.cell? ⟨g,0,none⟩=some a∧W.cell? ⟨g,1,none⟩=some b∧W.cell? ⟨g,2,none⟩=some c:=by
 have hq:=(h.block g (Array.getElem?_eq_some_iff.1 hq).1).trans hq
 exact⟨(ch_ hq _).trans rfl,(ch_ hq _).trans rfl,(ch_ hq _).trans rfl⟩
end Go.Proofs.YtkjkhoglkpepiaaGreatDoor.nmc
namespace Go.Proofs.YtkjkhoglkpepiaaGreatDoor.nmc
open Go.RowKit tlvc tlvd ndc txc txm intc intm
theorem attrOK_iff (a:At):attrOK a=true↔objB a.oid=true∧a.text.size≤64∧utfS a.text=true:=by
 unfold attrOK
 simp only[Bool.and_eq_true,decide_eq_true_eq,and_assoc]
theorem rightN_iff (l:List At):rightN l=true↔l.length≤8∧∀a∈l,attrOK a=true:=by
 unfold rightN
 rw[Bool.and_eq_true,decide_eq_true_eq,List.all_eq_true]
theorem rightP_iff (p:Pr):rightP p=true↔wordOK p.realm=true∧1≤p.names.length∧p.names.length≤8∧∀s∈p.names,wordOK s=true:=by
 unfold rightP
 simp only[Bool.and_eq_true,decide_eq_true_eq,List.all_eq_true,and_assoc]
end Go.Proofs.YtkjkhoglkpepiaaGreatDoor.nmc
namespace Go.Proofs.YtkjkhoglkpepiaaGreatDoor.nmc
open Go.RowKit tlvc tlvd ndc txc txm intc intm
end Go.Proofs.YtkjkhoglkpepiaaGreatDoor.nmc
set_option linter.unusedVariables false
set_option linter.unusedSimpArgs false
namespace Go.Proofs.YtkjkhoglkpepiaaGreatDoor.nmc
open Go.RowKit tlvc ndc
theorem Lst.stays {α:Type}{E:El α}{S:Nat→Prop}{w w':World}{A:Option Addr}{xs:List α}(hs:Stays S w w')(h:Lst E S w A xs):Lst E S w' A xs:=fun hn=>by
 obtain⟨g,off,e,hg,hB,hc⟩:=h hn
 refine⟨g,off,e,Nat.lt_of_lt_of_le hg hs.1,hB,fun i hi=>?_⟩
 obtain⟨cs,h1,h2⟩:=hc i hi
 exact⟨cs,fun j u hu=>(hs.2 ⟨g,off+i*E.sz+j,none⟩ hB hg).trans (h1 j u hu),E.stays hs h2⟩
theorem Lst.boundS {α:Type}{E:El α}{S:Nat→Prop}{w:World}{A:Option Addr}{xs:List α}(h:Lst E S w A xs):Lst E (fun g=>S g∧g<w.heap.size) w A xs:=fun hn=>by
 obtain⟨g,off,e,hg,hB,hc⟩:=h hn
 refine⟨g,off,e,hg,⟨hB,hg⟩,fun i hi=>?_⟩
 obtain⟨cs,h1,h2⟩:=hc i hi
 exact⟨cs,h1,E.bound h2⟩
def LsC {α:Type}(E:El α)(S:Nat→Prop)(w:World)(xs:List α)(c0:Value):Prop:=∃A c,c0=.slice A xs.length c∧xs.length≤c∧c≤maxLen∧Lst E S w A xs
def lsE {α:Type}(E:El α):El (List α) where
 sz:=1
 hold S w xs cs:=∃c0,cs=[c0]∧LsC E S w xs c0
 stays:=fun hs ⟨c0,e,A,c,e0,h1,h2,h3⟩=>⟨c0,e,A,c,e0,h1,h2,h3.stays hs⟩
 mono:=fun hS ⟨c0,e,A,c,e0,h1,h2,h3⟩=>⟨c0,e,A,c,e0,h1,h2,h3.mono hS⟩
 bound:=fun⟨c0,e,A,c,e0,h1,h2,h3⟩=>⟨c0,e,A,c,e0,h1,h2,h3.boundS⟩
 len:=fun⟨c0,e,_⟩=>by rw[e];rfl
 one:=fun⟨c0,e,A,c,e0,_⟩ u hu=>by
  subst e e0
  simp at hu
  subst hu;rfl
 pos:=by decide
def InC (S:Nat→Prop)(w:World)(xs:List Int)(c0:Value):Prop:=∃A la ca,c0=.slice A la ca∧la≤ca∧ca≤maxLen∧Ins w A la xs∧(0<la→∀g off sp,A=some ⟨g,off,sp⟩→S g)
theorem InC.stays {S:Nat→Prop}{w w':World}{xs:List Int}{c0:Value}(hs:Stays S w w')(h:InC S w xs c0):InC S w' xs c0:=by
 obtain⟨A,la,ca,e0,h1,h2,h3,h4⟩:=h
 exact⟨A,la,ca,e0,h1,h2,ins_stays hs h3 h4,h4⟩
theorem InC.mono {S S':Nat→Prop}{w:World}{xs:List Int}{c0:Value}(hS: ∀g,S g→S' g)(h:InC S w xs c0):InC S' w xs c0:=by
 obtain⟨A,la,ca,e0,h1,h2,h3,h4⟩:=h
 exact⟨A,la,ca,e0,h1,h2,h3,fun hl g off sp e=>hS _ (h4 hl g off sp e)⟩
theorem InC.bound {S:Nat→Prop}{w:World}{xs:List Int}{c0:Value}(h:InC S w xs c0):InC (fun g=>S g∧g<w.heap.size) w xs c0:=by
 obtain⟨A,la,ca,e0,h1,h2,h3,h4⟩:=h
 refine⟨A,la,ca,e0,h1,h2,h3,fun hl g off sp e=>⟨h4 hl g off sp e,?_⟩⟩
 obtain⟨b',off',e',hb',_⟩:=h3.2.2 hl
 rw[e'] at e;cases e;exact hb'
theorem InC.one {S:Nat→Prop}{w:World}{xs:List Int}{c0:Value}(h:InC S w xs c0):c0.oneCell'=true:=by
 obtain⟨A,la,ca,rfl,_⟩:=h;rfl
def inE:El (List Int) where
 sz:=1
 hold S w xs cs:=∃c0,cs=[c0]∧InC S w xs c0
 stays:=fun hs ⟨c0,e,h⟩=>⟨c0,e,h.stays hs⟩
 mono:=fun hS ⟨c0,e,h⟩=>⟨c0,e,h.mono hS⟩
 bound:=fun⟨c0,e,h⟩=>⟨c0,e,h.bound⟩
 len:=fun⟨c0,e,_⟩=>by rw[e];rfl
 one:=fun⟨c0,e,h⟩ u hu=>by
  subst e
  simp at hu
  subst hu;exact h.one
 pos:=by decide
def ByC (S:Nat→Prop)(w:World)(xs:List Int)(c0:Value):Prop:=∃A la ca,c0=.slice A la ca∧la≤ca∧ca≤maxLen∧Bys w A la xs∧(0<la→∀g off sp,A=some ⟨g,off,sp⟩→S g)
theorem ByC.stays {S:Nat→Prop}{w w':World}{xs:List Int}{c0:Value}(hs:Stays S w w')(h:ByC S w xs c0):ByC S w' xs c0:=by
 obtain⟨A,la,ca,e0,h1,h2,h3,h4⟩:=h
 exact⟨A,la,ca,e0,h1,h2,bys_stays hs h3 h4,h4⟩
theorem ByC.mono {S S':Nat→Prop}{w:World}{xs:List Int}{c0:Value}(hS: ∀g,S g→S' g)(h:ByC S w xs c0):ByC S' w xs c0:=by
 obtain⟨A,la,ca,e0,h1,h2,h3,h4⟩:=h
 exact⟨A,la,ca,e0,h1,h2,h3,fun hl g off sp e=>hS _ (h4 hl g off sp e)⟩
theorem ByC.bound {S:Nat→Prop}{w:World}{xs:List Int}{c0:Value}(h:ByC S w xs c0):ByC (fun g=>S g∧g<w.heap.size) w xs c0:=by
 obtain⟨A,la,ca,e0,h1,h2,h3,h4⟩:=h
 refine⟨A,la,ca,e0,h1,h2,h3,fun hl g off sp e=>⟨h4 hl g off sp e,?_⟩⟩
 obtain⟨b',off',e',hb',_⟩:=h3.2.2 hl
 rw[e'] at e;cases e;exact hb'
theorem ByC.one {S:Nat→Prop}{w:World}{xs:List Int}{c0:Value}(h:ByC S w xs c0):c0.oneCell'=true:=by
 obtain⟨A,la,ca,rfl,_⟩:=h;rfl
def prE:El Pr where
 sz:=2
 hold S w p cs:=∃c0 c1,cs=[c0,c1]∧PrC S w p c0 c1
 stays:=fun hs ⟨c0,c1,e,A,c,e0,e1,h1,h2,h3,h4⟩=>⟨c0,c1,e,A,c,e0,e1,h1,h2,h3.stays hs,h4⟩
 mono:=fun hS ⟨c0,c1,e,A,c,e0,e1,h1,h2,h3,h4⟩=>⟨c0,c1,e,A,c,e0,e1,h1,h2,h3.mono hS,h4⟩
 bound:=fun⟨c0,c1,e,A,c,e0,e1,h1,h2,h3,h4⟩=>⟨c0,c1,e,A,c,e0,e1,h1,h2,h3.boundS,h4⟩
 len:=fun⟨c0,c1,e,_⟩=>by rw[e];rfl
 one:=fun⟨c0,c1,e,A,c,e0,e1,_⟩ u hu=>by
  subst e e0 e1
  simp at hu
  rcases hu with rfl |rfl<;>rfl
 pos:=by decide
structure Od where
 oid:List Int
 crit:Bool
 body:List Int
instance:Inhabited Od:=⟨⟨[],false,[]⟩⟩
def OdC (S:Nat→Prop)(w:World)(o:Od)(c0 c1 c2:Value):Prop:=InC S w o.oid c0∧c1=.bool o.crit∧ByC S w o.body c2
def odE:El Od where
 sz:=3
 hold S w o cs:=∃c0 c1 c2,cs=[c0,c1,c2]∧OdC S w o c0 c1 c2
 stays:=fun hs ⟨c0,c1,c2,e,h1,h2,h3⟩=>⟨c0,c1,c2,e,h1.stays hs,h2,h3.stays hs⟩
 mono:=fun hS ⟨c0,c1,c2,e,h1,h2,h3⟩=>⟨c0,c1,c2,e,h1.mono hS,h2,h3.mono hS⟩
 bound:=fun⟨c0,c1,c2,e,h1,h2,h3⟩=>⟨c0,c1,c2,e,h1.bound,h2,h3.bound⟩
 len:=fun⟨c0,c1,c2,e,_⟩=>by rw[e];rfl
 one:=fun⟨c0,c1,c2,e,h1,h2,h3⟩ u hu=>by
  subst e h2
  simp at hu
  rcases hu with rfl |rfl |rfl
  ·exact h1.one
  ·rfl
  ·exact h3.one
 pos:=by decide
abbrev nmE:El (List At):=lsE atE
instance:Inhabited Pr:=⟨⟨⟨#[]⟩,[]⟩⟩
structure Ex where
 hasCA:Bool
 ca:Bool
 path:Int
 usage:Int
 eku:List (List Int)
 princs:List Pr
 permit:List (List At)
 exclude:List (List At)
 odd:List Od
instance:Inhabited Ex:=⟨⟨false,false,0,0,[],[],[],[],[]⟩⟩
structure ExC (S:Nat→Prop) (w:World) (x:Ex) (c0 c1 c2 c3 c4 c5 c6 c7 c8:Value):Prop where
 has:c0=.bool x.hasCA
 ca:c1=.bool x.ca
 path:c2=.int .i64 x.path
 i64: -9223372036854775808≤x.path∧x.path≤9223372036854775807
 usage:c3=.int .u16 x.usage
 u16:0≤x.usage∧x.usage≤65535
 eku:LsC inE S w x.eku c4
 princs:LsC prE S w x.princs c5
 permit:LsC nmE S w x.permit c6
 exclude:LsC nmE S w x.exclude c7
 odd:LsC odE S w x.odd c8
theorem LsC.on {α:Type}{E:El α}{S S':Nat→Prop}{w w':World}{xs:List α}{c0:Value}(h:LsC E S w xs c0)(hs:w.heap.size≤w'.heap.size)(hk: ∀g,S g→g<w.heap.size→w'.heap[g]? =w.heap[g]?)(hS: ∀g,S g→g<w.heap.size→S' g):LsC E S' w' xs c0:=by
 obtain⟨A,c,e,h1,h2,h3⟩:=h
 exact⟨A,c,e,h1,h2,h3.on hs hk hS⟩
theorem LsC.below {α:Type}{E:El α}{S:Nat→Prop}{w w':World}{xs:List α}{c0:Value}(h:LsC E S w xs c0)(hb:Below w.heap.size w w'):LsC E S w' xs c0:=h.on hb.size (fun g _ hg=>hb.block g hg) (fun g h _=>h)
theorem LsC.nil {α:Type}{E:El α}{S:Nat→Prop}{w:World}:LsC E S w [] (.slice none 0 0):=⟨none,0,rfl,lr_ _,Nat.zero_le _,Lst.nil _ _ _⟩
theorem ExC.on {S S':Nat→Prop}{w w':World}{x:Ex}{c0 c1 c2 c3 c4 c5 c6 c7 c8:Value}(h:ExC S w x c0 c1 c2 c3 c4 c5 c6 c7 c8)(hs:w.heap.size≤w'.heap.size)(hk: ∀g,S g→g<w.heap.size→w'.heap[g]? =w.heap[g]?)(hS: ∀g,S g→g<w.heap.size→S' g):ExC S' w' x c0 c1 c2 c3 c4 c5 c6 c7 c8:=
 ⟨h.has,h.ca,h.path,h.i64,h.usage,h.u16,h.eku.on hs hk hS,h.princs.on hs hk hS,h.permit.on hs hk hS,h.exclude.on hs hk hS,h.odd.on hs hk hS⟩
theorem ExC.below {S:Nat→Prop}{w w':World}{x:Ex}{c0 c1 c2 c3 c4 c5 c6 c7 c8:Value}(h:ExC S w x c0 c1 c2 c3 c4 c5 c6 c7 c8)(hb:Below w.heap.size w w'):ExC S w' x c0 c1 c2 c3 c4 c5 c6 c7 c8:=h.on hb.size (fun g _ hg=>hb.block g hg) (fun g h _=>h)
theorem InC.below {S:Nat→Prop}{w w':World}{xs:List Int}{c0:Value}(h:InC S w xs c0)(hb:Below w.heap.size w w'):InC S w' xs c0:=h.stays ⟨hb.size,fun p _ hl=>hb.cell hl⟩
theorem ByC.below {S:Nat→Prop}{w w':World}{xs:List Int}{c0:Value}(h:ByC S w xs c0)(hb:Below w.heap.size w w'):ByC S w' xs c0:=h.stays ⟨hb.size,fun p _ hl=>hb.cell hl⟩
theorem OdC.below {S:Nat→Prop}{w w':World}{o:Od}{c0 c1 c2:Value}(h:OdC S w o c0 c1 c2)(hb:Below w.heap.size w w'):OdC S w' o c0 c1 c2:=⟨h.1.below hb,h.2.1,h.2.2.below hb⟩
theorem El.below {α:Type}{E:El α}{S:Nat→Prop}{w w':World}{x:α}{cs:List Value}(h:E.hold S w x cs)(hb:Below w.heap.size w w'):E.hold S w' x cs:=E.stays ⟨hb.size,fun p _ hl=>hb.cell hl⟩ h
open dtc
theorem in_of {w:World}{d:Dt}{cs:List Value}(hs:IsSh (.row (.int .i64)) d)(h:Lies (fun _=>True) w d cs)(hf:fitDt d): ∃a:List Int,inE.hold (fun _=>True) w a cs∧True:=by
 unfold IsSh at hs
 obtain⟨l,rfl,hl⟩:=hs
 unfold Lies at h
 obtain⟨A,c,rfl,k1,k2,k3⟩:=h
 obtain⟨xs,hi⟩:=ins_of (A:=A) (c:=c) hl k3
 exact⟨xs,⟨_,rfl,A,l.length,c,rfl,k1,k2,hi,fun _ _ _ _ _=>trivial⟩,trivial⟩
theorem ls_of {α:Type}[Inhabited α]{E:El α}{s:Sh}{w:World}{P:α→Prop}(one: ∀(d:Dt) (cs:List Value),IsSh s d→Lies (fun _=>True) w d cs→fitDt d→∃a:α,E.hold (fun _=>True) w a cs∧P a)(hsz:s.sz=E.sz){d:Dt}{cs:List Value}(hs:IsSh (.row s) d)(h:Lies (fun _=>True) w d cs)(hf:fitDt d): ∃xs:List α,(∃c0,cs=[c0]∧LsC E (fun _=>True) w xs c0)∧∀x∈xs,P x:=by
 unfold IsSh at hs
 obtain⟨l,rfl,hl⟩:=hs
 unfold Lies at h
 obtain⟨A,c,rfl,k1,k2,k3⟩:=h
 unfold fitDt at hf
 obtain⟨xs,h1,h2,h3⟩:=list_of one hsz hl hf (A:=A) (fun hn=>by
  obtain⟨g,off,e,hg,_,hr⟩:=k3 hn
  rw[hsz] at hr⊢
  exact⟨g,off,e,hg,hr⟩)
 exact⟨xs,⟨_,rfl,A,c,by rw[h1],by rw[h1];exact k1,k2,h2⟩,h3⟩
theorem nm_of {w:World}{d:Dt}{cs:List Value}(hs:IsSh (.row atS) d)(h:Lies (fun _=>True) w d cs)(hf:fitDt d): ∃a:List At,nmE.hold (fun _=>True) w a cs∧∀x∈a,x.text.size≤140737488351232:=
 ls_of (P:=fun x:At=>x.text.size≤140737488351232) (fun d cs h1 h2 h3=>at_of h1 h2 h3) rfl hs h hf
theorem pr_of {w:World}{d:Dt}{cs:List Value}(hs:IsSh (.agg [.str,.row .str]) d)(h:Lies (fun _=>True) w d cs)(hf:fitDt d): ∃p:Pr,prE.hold (fun _=>True) w p cs∧True:=by
 unfold IsSh at hs
 obtain⟨l,rfl,hl⟩:=hs
 unfold Lies at h
 have hlen:cs.length=2:=by
  match l,hl with
  | [d0,d1],hl=>
   unfold IsShs at hl
   obtain⟨s0,hl⟩:=hl
   unfold IsShs at hl
   obtain⟨s1,_⟩:=hl
   unfold IsSh at s0 s1
   obtain⟨t,rfl⟩:=s0
   obtain⟨l,rfl,_⟩:=s1
   unfold LiesAll at h
   obtain⟨a,b,rfl,h0,h⟩:=h
   unfold LiesAll at h
   obtain⟨a1,b1,rfl,h1,h⟩:=h
   unfold LiesAll at h
   subst h
   unfold Lies at h0 h1
   obtain⟨rfl,_⟩:=h0
   obtain⟨A,c,rfl,_⟩:=h1
   rfl
  | [],hs=>unfold IsShs at hs;exact hs.elim
  | [_],hs=>unfold IsShs at hs;obtain⟨_,hs⟩:=hs;unfold IsShs at hs;exact hs.elim
  |_::_::_::_,hs=>unfold IsShs at hs;obtain⟨_,hs⟩:=hs;unfold IsShs at hs;obtain⟨_,hs⟩:=hs;unfold IsShs at hs;exact hs.elim
 match cs,hlen with
 | [c0,c1],_=>
  unfold fitDt at hf
  obtain⟨p,hp,_⟩:=princ_of hl h hf
  exact⟨p,⟨c0,c1,rfl,hp⟩,trivial⟩
def odS:Sh:=.agg [.row (.int .i64),.bool,.bys]
theorem od_of {w:World}{d:Dt}{cs:List Value}(hs:IsSh odS d)(h:Lies (fun _=>True) w d cs)(hf:fitDt d): ∃o:Od,odE.hold (fun _=>True) w o cs∧True:=by
 unfold odS IsSh at hs
 obtain⟨ds,rfl,hs⟩:=hs
 match ds,hs with
 | [d0,d1,d2],hs=>
  unfold IsShs at hs
  obtain⟨s0,hs⟩:=hs
  unfold IsShs at hs
  obtain⟨s1,hs⟩:=hs
  unfold IsShs at hs
  obtain⟨s2,_⟩:=hs
  unfold IsSh at s1 s2
  obtain⟨b,rfl⟩:=s1
  obtain⟨xs,rfl⟩:=s2
  unfold fitDt fitDts at hf
  unfold Lies LiesAll at h
  obtain⟨a,r,rfl,h0,h⟩:=h
  unfold LiesAll at h
  obtain⟨a1,r1,rfl,h1,h⟩:=h
  unfold LiesAll at h
  obtain⟨a2,r2,rfl,h2,h⟩:=h
  unfold LiesAll at h
  subst h
  obtain⟨oid,⟨c0,rfl,hi⟩,_⟩:=in_of s0 h0 hf.1
  unfold Lies at h1 h2
  subst h1
  obtain⟨A,la,ca,rfl,k1,k2,k3,_⟩:=h2
  exact⟨⟨oid,b,xs⟩,⟨_,_,_,rfl,hi,rfl,A,la,ca,rfl,k1,k2,k3,fun _ _ _ _ _=>trivial⟩,trivial⟩
 | [],hs=>unfold IsShs at hs;exact hs.elim
 | [_],hs=>unfold IsShs at hs;obtain⟨_,hs⟩:=hs;unfold IsShs at hs;exact hs.elim
 | [_,_],hs=>unfold IsShs at hs;obtain⟨_,hs⟩:=hs;unfold IsShs at hs;obtain⟨_,hs⟩:=hs;unfold IsShs at hs;exact hs.elim
 |_::_::_::_::_,hs=>unfold IsShs at hs;obtain⟨_,hs⟩:=hs;unfold IsShs at hs;obtain⟨_,hs⟩:=hs;unfold IsShs at hs;obtain⟨_,hs⟩:=hs;unfold IsShs at hs;exact hs.elim
abbrev exS:List Sh:=[.bool,.bool,.int .i64,.int .u16,.row (.row (.int .i64)),.row (.agg [.str,.row .str]),.row (.row atS),.row (.row atS),.row odS]
theorem ex_of {w:World}{l:List Dt}{c0 c1 c2 c3 c4 c5 c6 c7 c8:Value}(hs:IsShs exS l)(h:LiesAll (fun _=>True) w l [c0,c1,c2,c3,c4,c5,c6,c7,c8])(hf:fitDts l): ∃x:Ex,ExC (fun _=>True) w x c0 c1 c2 c3 c4 c5 c6 c7 c8:=by
 unfold exS at hs
 match l,hs with
 | [],hs=>unfold IsShs at hs;exact hs.elim
 |d0::l,hs=>
 unfold IsShs at hs;obtain⟨s0,hs⟩:=hs
 match l,hs with
 | [],hs=>unfold IsShs at hs;exact hs.elim
 |d1::l,hs=>
 unfold IsShs at hs;obtain⟨s1,hs⟩:=hs
 match l,hs with
 | [],hs=>unfold IsShs at hs;exact hs.elim
 |d2::l,hs=>
 unfold IsShs at hs;obtain⟨s2,hs⟩:=hs
 match l,hs with
 | [],hs=>unfold IsShs at hs;exact hs.elim
 |d3::l,hs=>
 unfold IsShs at hs;obtain⟨s3,hs⟩:=hs
 match l,hs with
 | [],hs=>unfold IsShs at hs;exact hs.elim
 |d4::l,hs=>
 unfold IsShs at hs;obtain⟨s4,hs⟩:=hs
 match l,hs with
 | [],hs=>unfold IsShs at hs;exact hs.elim
 |d5::l,hs=>
 unfold IsShs at hs;obtain⟨s5,hs⟩:=hs
 match l,hs with
 | [],hs=>unfold IsShs at hs;exact hs.elim
 |d6::l,hs=>
 unfold IsShs at hs;obtain⟨s6,hs⟩:=hs
 match l,hs with
 | [],hs=>unfold IsShs at hs;exact hs.elim
 |d7::l,hs=>
 unfold IsShs at hs;obtain⟨s7,hs⟩:=hs
 match l,hs with
 | [],hs=>unfold IsShs at hs;exact hs.elim
 |d8::l,hs=>
 unfold IsShs at hs;obtain⟨s8,hs⟩:=hs
 match l,hs with
 |_::_,hs=>unfold IsShs at hs;exact hs.elim
 | [],_=>
 unfold IsSh at s0 s1 s2 s3
 obtain⟨b0,rfl⟩:=s0
 obtain⟨b1,rfl⟩:=s1
 obtain⟨n2,rfl⟩:=s2
 obtain⟨n3,rfl⟩:=s3
 simp only[fitDts] at hf
 obtain⟨_,_,_,_,f4,f5,f6,f7,f8,_⟩:=hf
 simp only[LiesAll] at h
 obtain⟨a0,r0,e0,h0,a1,r1,e1,h1,a2,r2,e2,h2,a3,r3,e3,h3,a4,r4,e4,h4,a5,r5,e5,h5,a6,r6,e6,h6,a7,r7,e7,h7,a8,r8,e8,h8,e9⟩:=h
 subst e9
 unfold Lies at h0 h1 h2 h3
 subst h0 h1
 obtain⟨rfl,w2⟩:=h2
 obtain⟨rfl,w3⟩:=h3
 obtain⟨x4,⟨d4',rfl,k4⟩,_⟩:=ls_of (E:=inE) (P:=fun _=>True) (fun d cs h1 h2 h3=>in_of h1 h2 h3) rfl s4 h4 f4
 obtain⟨x5,⟨d5',rfl,k5⟩,_⟩:=ls_of (E:=prE) (P:=fun _=>True) (fun d cs h1 h2 h3=>pr_of h1 h2 h3) rfl s5 h5 f5
 obtain⟨x6,⟨d6',rfl,k6⟩,_⟩:=ls_of (E:=nmE) (P:=fun _=>True) (fun d cs h1 h2 h3=>by obtain⟨a,ha,_⟩:=nm_of h1 h2 h3;exact⟨a,ha,trivial⟩) rfl s6 h6 f6
 obtain⟨x7,⟨d7',rfl,k7⟩,_⟩:=ls_of (E:=nmE) (P:=fun _=>True) (fun d cs h1 h2 h3=>by obtain⟨a,ha,_⟩:=nm_of h1 h2 h3;exact⟨a,ha,trivial⟩) rfl s7 h7 f7
 obtain⟨x8,⟨d8',rfl,k8⟩,_⟩:=ls_of (E:=odE) (P:=fun _=>True) (fun d cs h1 h2 h3=>od_of h1 h2 h3) rfl s8 h8 f8
 subst e8 e7 e6 e5 e4 e3 e2 e1
 simp only[List.cons_append,List.nil_append,List.append_nil,List.cons.injEq,and_true] at e0
 obtain⟨rfl,rfl,rfl,rfl,rfl,rfl,rfl,rfl,rfl⟩:=e0
 have b2:=bounds_i64 w2
 have b3:=bounds_u16 w3
 exact⟨⟨b0,b1,n2,n3,x4,x5,x6,x7,x8⟩,rfl,rfl,rfl,by omega,rfl,b3,k4,k5,k6,k7,k8⟩
end Go.Proofs.YtkjkhoglkpepiaaGreatDoor.nmc
namespace Go.Proofs.YtkjkhoglkpepiaaGreatDoor.nmc
open Go.RowKit tlvc tlvd ndc txc txm intc intm
def okW (n:Nd)(o L:Nat):Prop:=∃b,writeF n o=.ok b∧b.length≤L
def noW (n:Nd)(o:Nat):Prop:=∃e,writeF n o=.no e
theorem okW.mono {n:Nd}{o L M:Nat}(h:okW n o L)(hl:L≤M):okW n o M:=by
 obtain⟨b,h1,h2⟩:=h
 exact⟨b,h1,Nat.le_trans h2 hl⟩
theorem putBytes_le (t:Int)(xs:List Int):(putBytes t xs).length≤xs.length+4:=by
 rw[put_len,hdr_length]
 split
 ·omega
 ·split<;>omega
theorem leafW {t:Int}{b:List Int}{o:Nat}(ho:o<32)(ht:t%32≠31)(hc:compB t=false)(he:endlessB t=false)(hb:b.length≤65535):writeF (.mk t b []) o=if mayF t b=true then .ok (putBytes t b) else .no 43:=by
 unfold writeF aloneF
 rw[if_neg (by omega: ¬32≤o),if_neg ht]
 by_cases hm:mayF t b=true
 ·rw[if_pos hm,if_neg (by decide),if_pos hm]
  have hmis:misF t b ([]:List Nd).length=false:=by unfold misF;rw[hc];rfl
  rw[hmis,hc,if_neg (by decide),if_neg (by decide)]
  exact putW_put he hb
 ·rw[if_neg hm,if_pos (by decide),if_neg hm]
theorem leaf_ok {t:Int}{b:List Int}{o:Nat}(ho:o<32)(ht:t%32≠31)(hc:compB t=false)(he:endlessB t=false)(hb:b.length≤65535)(hm:mayF t b=true):okW (.mk t b []) o (b.length+4):=
 ⟨_,by rw[leafW ho ht hc he hb,if_pos hm],putBytes_le _ _⟩
theorem leaf_no {t:Int}{b:List Int}{o:Nat}(ho:o<32)(ht:t%32≠31)(hc:compB t=false)(he:endlessB t=false)(hb:b.length≤65535)(hm:mayF t b=false):noW (.mk t b []) o:=
 ⟨_,by rw[leafW ho ht hc he hb,hm];rfl⟩
theorem listW {o L:Nat}: ∀(ks:List Nd) (k:WK),(∀n∈ks,okW n o L)→k.body.length+ks.length*L≤65535→∃k',writeL ks o k=.ok k'∧k'.body.length≤k.body.length+ks.length*L
 | [],k,_,_=>⟨k,writeL_nil,by omega⟩
 |n::ks,k,h,hl=>by
  obtain⟨b,h1,h2⟩:=h n (by simp)
  rw[List.length_cons,Nat.succ_mul] at hl⊢
  have hk:(k.add b).body.length≤k.body.length+L:=by
   unfold WK.add
   simp only
   split
   ·rw[List.length_append];omega
   ·omega
  obtain⟨k',h3,h4⟩:=listW ks (k.add b) (fun m hm=>h m (by simp[hm])) (by omega)
  exact⟨k',by rw[writeL_ok h1];exact h3,by omega⟩
theorem listW_no {o:Nat}: ∀(ks:List Nd) (k:WK),(∃n∈ks,noW n o)→∃e,writeL ks o k=.no e
 | [],_,⟨n,hn,_⟩=>by simp at hn
 |n::ks,k,⟨m,hm,e,he⟩=>by
  cases hw:writeF n o with
  |no e1=>exact⟨e1,writeL_no hw⟩
  |ok b=>
   rw[writeL_ok hw]
   rcases List.mem_cons.1 hm with rfl |hm
   ·rw[hw] at he;cases he
   ·exact listW_no ks _ ⟨m,hm,e,he⟩
theorem seq_tag {t:Int}(ht:t=48∨t=160∨t=161):t%32≠31∧compB t=true∧endlessB t=false∧mayF t []=true∧t≠49:=by
 rcases ht with rfl |rfl |rfl
 ·exact⟨by decide,by decide,by decide,rfl,by decide⟩
 ·exact⟨by decide,by decide,by decide,rfl,by decide⟩
 ·exact⟨by decide,by decide,by decide,rfl,by decide⟩
theorem seqF_of {t:Int}{ks:List Nd}{o:Nat}(ho:o<32)(ht:t=48∨t=160∨t=161):writeF (.mk t [] ks) o=finW t (kresF t (writeL ks (o+1) wk0)):=by
 obtain⟨h1,h2,h3,h4,h5⟩:=seq_tag ht
 unfold writeF aloneF
 rw[if_neg (by omega: ¬32≤o),if_neg h1,if_pos h4,if_neg (by decide)]
 have hmis:misF t [] ks.length=false:=by unfold misF;rw[h2];rfl
 rw[hmis,h2,if_neg (by decide),if_pos rfl]
theorem seqW {t:Int}{ks:List Nd}{o L:Nat}(ho:o<32)(ht:t=48∨t=160∨t=161)(h: ∀n∈ks,okW n (o+1) L)(hl:ks.length*L≤65535):okW (.mk t [] ks) o (ks.length*L+4):=by
 obtain⟨k,h1,h2⟩:=listW ks wk0 h (by show 0+_≤_;omega)
 obtain⟨_,_,g3,_,g5⟩:=seq_tag ht
 have h2:k.body.length≤ks.length*L:=by have:(wk0.body).length=0:=rfl;omega
 refine⟨putBytes t k.body,?_,Nat.le_trans (putBytes_le _ _) (by omega)⟩
 rw[seqF_of ho ht,h1]
 unfold kresF
 simp only
 rw[if_neg (fun e=>g5 e.1)]
 exact putW_put g3 (by omega)
theorem seq_no {t:Int}{ks:List Nd}{o:Nat}(ho:o<32)(ht:t=48∨t=160∨t=161)(h: ∃n∈ks,noW n (o+1)):noW (.mk t [] ks) o:=by
 obtain⟨e,he⟩:=listW_no ks wk0 h
 exact⟨e,by rw[seqF_of ho ht,he];rfl⟩
def zeroN:Nd:=.mk 0 [] []
def truthN:Nd:=.mk 1 (boolB true) []
def numN (n:Int):Nd:=.mk 2 (putI n) []
def oidN (l:List Int):Nd:=.mk 6 (putO l).1 []
theorem oidN_of {l:List Int}(h:objB l=true):oidN l=.mk 6 (encO l) []:=by unfold oidN;rw[putO_yes h]
theorem oidN_no' {l:List Int}(h:objB l=false):oidN l=.mk 6 [] []:=by unfold oidN;rw[putO_no h]
def nameZ (l:List At):Nd:=if rightN l=true then nameN l else zeroN
def princZ (p:Pr):Nd:=if rightP p=true then princN p else zeroN
theorem zero_no {o:Nat}(ho:o<32):noW zeroN o:=leaf_no ho (by decide) (by decide) (by decide) (by decide) rfl
theorem oid_ok {l:List Int}{o:Nat}(ho:o<32)(h:objB l=true):okW (oidN l) o 64:=by
 rw[oidN_of h]
 have hl:=encO_length h
 refine(leaf_ok (t:=6) (b:=encO l) ho (by decide) (by decide) (by decide) (by omega) ?_).mono (by omega)
 have e:mayF 6 (encO l)=decide ((oidF (encO l)).2=0):=rfl
 rw[e,oidF_enc h]
 rfl
theorem oid_no {l:List Int}{o:Nat}(ho:o<32)(h:objB l=false):noW (oidN l) o:=by
 rw[oidN_no' h]
 refine leaf_no ho (by decide) (by decide) (by decide) (by decide) ?_
 have e:mayF 6 []=decide ((oidF []).2=0):=rfl
 rw[e]
 rfl
theorem word_ok {s:ByteArray}{o:Nat}(ho:o<32)(h:wordOK s=true):okW (wordN s) o 68:=by
 unfold wordOK at h
 rw[Bool.and_eq_true,Bool.and_eq_true,decide_eq_true_eq,decide_eq_true_eq] at h
 have hl:=bytesI_length s
 refine(leaf_ok ho (by decide) (by decide) (by decide) (by omega) ?_).mono (by omega)
 exact h.2
theorem attr_ok {a:At}{o:Nat}(ho:o+1<32)(h:attrOK a=true):okW (attrN a) o 140:=by
 unfold attrOK at h
 rw[Bool.and_eq_true,Bool.and_eq_true,decide_eq_true_eq] at h
 refine(seqW (L:=68) (by omega) (.inl rfl) (fun n hn=>?_) (by simp)).mono (by simp)
 simp only[List.mem_cons,List.mem_nil_iff,or_false] at hn
 rcases hn with rfl |rfl
 ·have:=oid_ok (o:=o+1) ho h.1.1
  rw[oidN_of h.1.1] at this
  exact this.mono (by decide)
 ·have hl:=bytesI_length a.text
  refine(leaf_ok ho (by decide) (by decide) (by decide) (by omega) ?_).mono (by omega)
  have e:mayF 12 (bytesI a.text)=utfB (bytesI a.text):=rfl
  rw[e,utf_bytesI]
  exact h.2
theorem name_ok {l:List At}{o:Nat}(ho:o+2<32)(h:rightN l=true):okW (nameN l) o 1124:=by
 unfold rightN at h
 rw[Bool.and_eq_true,decide_eq_true_eq,List.all_eq_true] at h
 have hl:(l.map attrN).length≤8:=by rw[List.length_map];exact h.1
 refine(seqW (L:=140) (by omega) (.inl rfl) (fun n hn=>?_) (by omega)).mono (by omega)
 obtain⟨a,ha,rfl⟩:=List.mem_map.1 hn
 exact attr_ok (by omega) (h.2 a ha)
theorem princ_ok {p:Pr}{o:Nat}(ho:o+2<32)(h:rightP p=true):okW (princN p) o 1200:=by
 unfold rightP at h
 rw[Bool.and_eq_true,Bool.and_eq_true,Bool.and_eq_true,decide_eq_true_eq,decide_eq_true_eq,List.all_eq_true] at h
 obtain⟨⟨⟨h1,h2⟩,h3⟩,h4⟩:=h
 refine(seqW (L:=548) (by omega) (.inl rfl) (fun n hn=>?_) (by simp)).mono (by simp)
 simp only[List.mem_cons,List.mem_nil_iff,or_false] at hn
 rcases hn with rfl |rfl
 ·exact(word_ok (by omega) h1).mono (by decide)
 ·have hl:(p.names.map wordN).length≤8:=by rw[List.length_map];exact h3
  refine(seqW (L:=68) (by omega) (.inl rfl) (fun n hn=>?_) (by omega)).mono (by omega)
  obtain⟨a,ha,rfl⟩:=List.mem_map.1 hn
  exact word_ok (by omega) (h4 a ha)
theorem listed_ways {α:Type}(g:α→Nd)(ok:α→Bool){t:Int}{o L:Nat}(ho:o<32)(ht:t=48∨t=160∨t=161)(h1: ∀a,ok a=true→okW (g a) (o+1) L)(h0: ∀a,ok a=false→noW (g a) (o+1)){l:List α}(hl:l.length≤16)(hL:16*L+4≤65535):
 if l.all ok=true then okW (.mk t [] (l.map g)) o (16*L+4) else noW (.mk t [] (l.map g)) o:=by
 have hm:(l.map g).length≤16:=by rw[List.length_map];exact hl
 have hm2:(l.map g).length*L≤16*L:=Nat.mul_le_mul_right _ hm
 by_cases h:l.all ok=true
 ·rw[if_pos h]
  rw[List.all_eq_true] at h
  refine(seqW (L:=L) ho ht (fun n hn=>?_) (by omega)).mono (by omega)
  obtain⟨a,ha,rfl⟩:=List.mem_map.1 hn
  exact h1 a (h a ha)
 ·rw[if_neg h]
  have h: ¬ ∀a∈l,ok a=true:=fun e=>h (List.all_eq_true.2 e)
  obtain⟨a,ha,hn⟩: ∃a∈l,ok a=false:=by
   refine Classical.byContradiction fun hc=>h fun a ha=>?_
   cases e:ok a
   ·exact absurd ⟨a,ha,e⟩ hc
   ·rfl
  exact seq_no ho ht ⟨g a,List.mem_map.2 ⟨a,ha,rfl⟩,h0 a hn⟩
def koid (i:Nat):List Int:=[2,5,29,[19,15,37,17,30].getD i 0]
def kcrit (i:Nat):Bool:=[true,true,false,false,true].getD i false
def ks5:List Nat:=[0,1,2,3,4]
def knownOids:List (List Int):=[koid 0,koid 1,koid 2,koid 3,koid 4]
def kthere (x:Ex):Nat→Bool
 |0=>x.hasCA
 |1=>decide (x.usage≠0)
 |2=>decide (0<x.eku.length)
 |3=>decide (0<x.princs.length)
 |_=>decide (0<x.permit.length) || decide (0<x.exclude.length)
def onlyL (b:Bool)(n:Nd):List Nd:=if b=true then [n] else []
def saysF (x:Ex):Nat→Nd
 |0=>.mk 48 [] (onlyL x.ca truthN++onlyL (x.ca && decide (x.path≠ -1)) (numN x.path))
 |1=>.mk 3 (putM x.usage) []
 |2=>.mk 48 [] (x.eku.map oidN)
 |3=>.mk 48 [] (x.princs.map princZ)
 |_=>.mk 48 [] (onlyL (decide (0<x.permit.length)) (.mk 160 [] (x.permit.map nameZ))++onlyL (decide (0<x.exclude.length)) (.mk 161 [] (x.exclude.map nameZ)))
def extF (o:Od):Nd:=.mk 48 [] (onlyL true (oidN o.oid)++(onlyL o.crit truthN++onlyL true (.mk 4 o.body [])))
def boundedX (x:Ex):Bool:=
 decide (x.eku.length≤16) && decide (x.princs.length≤16) && decide (x.permit.length≤16) && decide (x.exclude.length≤16) && decide (x.odd.length≤16) &&
  (if x.ca=true then x.hasCA && decide (-1≤x.path) && decide (x.path≤100) else decide (x.path=0))
def oddsX:List (List Int)→List Od→Bool
 |_,[]=>true
 |taken,o::l=>objB o.oid && decide (o.body.length≤1024) && !decide (o.oid∈taken) && oddsX (taken++[o.oid]) l
def partX (x:Ex):Nat→Bool
 |2=>x.eku.all objB
 |3=>x.princs.all rightP
 |4=>x.permit.all rightN && x.exclude.all rightN
 |_=>true
def rightX (x:Ex):Bool:=boundedX x && oddsX knownOids x.odd && (partX x 2 && partX x 3 && partX x 4)
def knownL (x:Ex):List Nat→Option (List Nd)
 | []=>some []
 |i::is=>if kthere x i=true then
  match writeF (saysF x i) 0 with
  | .no _=>none
  | .ok b=>(knownL x is).map (extF ⟨koid i,kcrit i,b⟩:: ·)
  else knownL x is
def putX (x:Ex):Option Nd:=if (boundedX x && oddsX knownOids x.odd)=true then (knownL x ks5).map (fun l=>.mk 48 [] (l++x.odd.map extF)) else none
def bytesN (n:Nd):List Int:=match writeF n 0 with
 | .ok b=>b
 | .no _=>[]
def knownN (x:Ex)(is:List Nat):List Nd:=(is.filter (kthere x)).map fun i=>extF ⟨koid i,kcrit i,bytesN (saysF x i)⟩
def nodeX (x:Ex):Nd:=.mk 48 [] (knownN x ks5++x.odd.map extF)
theorem bits_may {m:Int}(h:0≤m∧m≤65535):mayF 3 (putM m)=true:=by
 have e:mayF 3 (putM m)=bitsB (putM m):=rfl
 rw[e]
 by_cases h0:m=0
 ·subst h0;rfl
 have key: ∀k:Fin 256,1≤(k.val:Int)→((8:Int) - lenB (k.val:Int)<8∧rv (k.val:Int)%2^ ((8:Int) - lenB (k.val:Int)).toNat=0):=by decide+kernel
 by_cases h1:m<256
 ·rw[putM_low (by omega) h1,bitsB_more (by simp) ?_]
  ·obtain⟨k,rfl⟩:=Int.eq_ofNat_of_zero_le h.1
   exact decide_eq_true (key ⟨k,by omega⟩ (by show(1:Int)≤(k:Int);omega)).2
  ·obtain⟨k,rfl⟩:=Int.eq_ofNat_of_zero_le h.1
   exact(key ⟨k,by omega⟩ (by show(1:Int)≤(k:Int);omega)).1
 ·obtain⟨q,hq⟩:=nm_ (m/ 256)
  have hq0:1≤q∧q≤255:=by omega
  rw[putM_high (by omega),hq,bitsB_more (by simp) ?_]
  ·obtain⟨k,rfl⟩:=Int.eq_ofNat_of_zero_le (show 0≤q by omega)
   exact decide_eq_true (key ⟨k,by omega⟩ (by show(1:Int)≤(k:Int);omega)).2
  ·obtain⟨k,rfl⟩:=Int.eq_ofNat_of_zero_le (show 0≤q by omega)
   exact(key ⟨k,by omega⟩ (by show(1:Int)≤(k:Int);omega)).1
theorem intF_put' {n:Int}(hn:I64 n):intF (putI n)=(n,0):=by
 have h1:=putI_length n
 have h2:=width_bd n
 have e:dec ((putI n).take 8)=n:=by rw[List.take_of_length_le (by omega),dec_put hn]
 unfold intF
 rw[e,if_pos rfl]
theorem bounded_parts {x:Ex}(h:boundedX x=true):x.eku.length≤16∧x.princs.length≤16∧x.permit.length≤16∧x.exclude.length≤16∧x.odd.length≤16∧(if x.ca=true then x.hasCA && decide (-1≤x.path) && decide (x.path≤100) else decide (x.path=0))=true:=by
 unfold boundedX at h
 simp only[Bool.and_eq_true,decide_eq_true_eq] at h
 obtain⟨⟨⟨⟨⟨h1,h2⟩,h3⟩,h4⟩,h5⟩,h6⟩:=h
 exact⟨h1,h2,h3,h4,h5,h6⟩
theorem onlyL_mem {b:Bool}{n m:Nd}(h:m∈onlyL b n):b=true∧m=n:=by
 unfold onlyL at h
 split at h
 ·rename_i hb;exact⟨hb,by simpa using h⟩
 ·simp at h
theorem onlyL_len (b:Bool)(n:Nd):(onlyL b n).length≤1:=by unfold onlyL;split<;>simp
theorem says_ways {x:Ex}(hb:boundedX x=true)(hu:0≤x.usage∧x.usage≤65535): ∀(i:Nat),i<5→(partX x i=true∧okW (saysF x i) 0 65535)∨(partX x i=false∧noW (saysF x i) 0)
 |0,_=>by
  refine .inl ⟨rfl,?_⟩
  obtain⟨_,_,_,_,_,hp⟩:=bounded_parts hb
  have l1:=onlyL_len x.ca truthN
  have l2:=onlyL_len (x.ca && decide (x.path≠ -1)) (numN x.path)
  have hl:(onlyL x.ca truthN++onlyL (x.ca && decide (x.path≠ -1)) (numN x.path)).length≤2:=by rw[List.length_append];omega
  have hm:(onlyL x.ca truthN++onlyL (x.ca && decide (x.path≠ -1)) (numN x.path)).length*12≤2*12:=Nat.mul_le_mul_right _ hl
  refine(seqW (L:=12) (by decide) (.inl rfl) (fun n hn=>?_) (by omega)).mono (by omega)
  rcases List.mem_append.1 hn with hn |hn
  ·obtain⟨_,rfl⟩:=onlyL_mem hn
   exact(leaf_ok (by decide) (by decide) (by decide) (by decide) (by decide) (by rfl)).mono (by decide)
  ·obtain⟨h,rfl⟩:=onlyL_mem hn
   rw[Bool.and_eq_true] at h
   rw[if_pos h.1,Bool.and_eq_true,Bool.and_eq_true,decide_eq_true_eq,decide_eq_true_eq] at hp
   have hw:=putI_length x.path
   have hw2:=width_bd x.path
   refine(leaf_ok (by decide) (by decide) (by decide) (by decide) (by omega) ?_).mono (by omega)
   have e:mayF 2 (putI x.path)=decide ((intF (putI x.path)).2=0):=rfl
   rw[e,intF_put' (by unfold I64;omega)]
   rfl
 |1,_=>by
  refine .inl ⟨rfl,?_⟩
  have hl:=putM_length x.usage
  exact(leaf_ok (by decide) (by decide) (by decide) (by decide) (by omega) (bits_may hu)).mono (by omega)
 |2,_=>by
  obtain⟨h1,_⟩:=bounded_parts hb
  have:=listed_ways oidN objB (t:=48) (o:=0) (L:=64) (by decide) (.inl rfl) (fun a h=>oid_ok (by decide) h) (fun a h=>oid_no (by decide) h) h1 (by decide)
  cases e:x.eku.all objB
  ·rw[e] at this;exact .inr ⟨e,this⟩
  ·rw[e] at this;exact .inl ⟨e,okW.mono this (by decide)⟩
 |3,_=>by
  obtain⟨_,h1,_⟩:=bounded_parts hb
  have:=listed_ways princZ rightP (t:=48) (o:=0) (L:=1200) (by decide) (.inl rfl) (fun a h=>by unfold princZ;rw[if_pos h];exact princ_ok (by decide) h) (fun a h=>by unfold princZ;rw[h];exact zero_no (by decide)) h1 (by decide)
  cases e:x.princs.all rightP
  ·rw[e] at this;exact .inr ⟨e,this⟩
  ·rw[e] at this;exact .inl ⟨e,okW.mono this (by decide)⟩
 |4,_=>by
  obtain⟨_,_,h1,h2,_⟩:=bounded_parts hb
  have one: ∀a,rightN a=true→okW (nameZ a) (1+1) 1124:=fun a h=>by unfold nameZ;rw[if_pos h];exact name_ok (by decide) h
  have zero: ∀a,rightN a=false→noW (nameZ a) (1+1):=fun a h=>by unfold nameZ;rw[h];exact zero_no (by decide)
  have p:=listed_ways nameZ rightN (t:=160) (o:=1) (L:=1124) (by decide) (.inr (.inl rfl)) one zero h1 (by decide)
  have q:=listed_ways nameZ rightN (t:=161) (o:=1) (L:=1124) (by decide) (.inr (.inr rfl)) one zero h2 (by decide)
  have pe:x.permit.all rightN=false→0<x.permit.length:=fun h=>by
   rcases hx:x.permit with _ | ⟨a,l⟩
   ·rw[hx] at h;cases h
   ·simp
  have qe:x.exclude.all rightN=false→0<x.exclude.length:=fun h=>by
   rcases hx:x.exclude with _ | ⟨a,l⟩
   ·rw[hx] at h;cases h
   ·simp
  have two: ∀(X Y:List Nd),X.length≤1→Y.length≤1→(∀n∈X++Y,okW n 1 17988)→okW (.mk 48 [] (X++Y)) 0 65535:=fun X Y hX hY h=>by
   have hl:(X++Y).length≤2:=by rw[List.length_append];omega
   have hm:(X++Y).length*17988≤2*17988:=Nat.mul_le_mul_right _ hl
   have h1:=seqW (L:=17988) (t:=48) (o:=0) (ks:=X++Y) (by decide) (.inl rfl) h (Nat.le_trans hm (by decide))
   exact h1.mono (Nat.le_trans (Nat.add_le_add_right hm 4) (by decide))
  cases e1:x.permit.all rightN
  ·rw[e1] at p
   refine .inr ⟨by unfold partX;rw[e1];rfl,seq_no (by decide) (.inl rfl) ⟨_,List.mem_append.2 (.inl ?_),p⟩⟩
   unfold onlyL;rw[if_pos (decide_eq_true (pe e1))];exact List.mem_singleton.2 rfl
  ·rw[e1] at p
   cases e2:x.exclude.all rightN
   ·rw[e2] at q
    refine .inr ⟨by unfold partX;rw[e1,e2];rfl,seq_no (by decide) (.inl rfl) ⟨_,List.mem_append.2 (.inr ?_),q⟩⟩
    unfold onlyL;rw[if_pos (decide_eq_true (qe e2))];exact List.mem_singleton.2 rfl
   ·rw[e2] at q
    refine .inl ⟨by unfold partX;rw[e1,e2];rfl,two _ _ (onlyL_len _ _) (onlyL_len _ _) fun n hn=>?_⟩
    rcases List.mem_append.1 hn with hn |hn
    ·obtain⟨_,rfl⟩:=onlyL_mem hn;exact p
    ·obtain⟨_,rfl⟩:=onlyL_mem hn;exact q
 |i+5,h=>absurd h (by omega)
theorem part_there {x:Ex}{i:Nat}(h:kthere x i=false):partX x i=true:=by
 match i,h with
 |0,_=>rfl
 |1,_=>rfl
 |2,h=>
  have h:x.eku=[]:=List.eq_nil_of_length_eq_zero (by have:=of_decide_eq_false h;omega)
  show x.eku.all objB=true
  rw[h];rfl
 |3,h=>
  have h:x.princs=[]:=List.eq_nil_of_length_eq_zero (by have:=of_decide_eq_false h;omega)
  show x.princs.all rightP=true
  rw[h];rfl
 |4,h=>
  have h:(decide (0<x.permit.length) || decide (0<x.exclude.length))=false:=h
  rw[Bool.or_eq_false_iff] at h
  have h1:x.permit=[]:=List.eq_nil_of_length_eq_zero (by have:=of_decide_eq_false h.1;omega)
  have h2:x.exclude=[]:=List.eq_nil_of_length_eq_zero (by have:=of_decide_eq_false h.2;omega)
  show(x.permit.all rightN && x.exclude.all rightN)=true
  rw[h1,h2];rfl
 |i+5,_=>rfl
theorem knownL_ways {x:Ex}(hb:boundedX x=true)(hu:0≤x.usage∧x.usage≤65535): ∀(is:List Nat),(∀i∈is,i<5)→knownL x is=if is.all (partX x)=true then some (knownN x is) else none
 | [],_=>rfl
 |i::is,h=>by
  unfold knownL
  rw[knownL_ways hb hu is (fun j hj=>h j (by simp[hj])),List.all_cons]
  cases ht:kthere x i
  ·rw[if_neg (by decide),part_there ht,Bool.true_and]
   unfold knownN
   rw[List.filter_cons,ht]
   rfl
  ·rw[if_pos rfl]
   rcases says_ways hb hu i (h i (by simp)) with ⟨h1,b,h2,_⟩ | ⟨h1,e,h2⟩
   ·rw[h1,h2,Bool.true_and]
    simp only
    have hN:knownN x (i::is)=extF ⟨koid i,kcrit i,b⟩::knownN x is:=by
     unfold knownN
     rw[List.filter_cons,ht,if_pos rfl,List.map_cons]
     congr 2
     unfold bytesN
     rw[h2]
    rw[hN]
    by_cases ha:is.all (partX x)=true
    ·rw[if_pos ha,if_pos ha];rfl
    ·rw[if_neg ha,if_neg ha];rfl
   ·rw[h1,h2,Bool.false_and]
    rfl
theorem putX_right {x:Ex}(hu:0≤x.usage∧x.usage≤65535):putX x=if rightX x=true then some (nodeX x) else none:=by
 unfold putX rightX
 cases hb:boundedX x
 ·rfl
 ·cases ho:oddsX knownOids x.odd
  ·rfl
  ·rw[if_pos (show(true && true)=true from rfl),knownL_ways hb hu ks5 (fun i hi=>by unfold ks5 at hi;simp at hi;omega)]
   have e:ks5.all (partX x)=(partX x 2 && partX x 3 && partX x 4):=by
    unfold ks5
    simp only[List.all_cons,List.all_nil]
    show(true && (true && (partX x 2 && (partX x 3 && (partX x 4 && true)))))=_
    simp[Bool.and_assoc]
   rw[e,Bool.true_and,Bool.true_and]
   split<;>rfl
theorem says_right {x:Ex}(hu:0≤x.usage∧x.usage≤65535)(hr:rightX x=true){i:Nat}(hi:i<5): ∃b,writeF (saysF x i) 0=.ok b∧bytesN (saysF x i)=b∧b.length≤65535:=by
 unfold rightX at hr
 simp only[Bool.and_eq_true] at hr
 obtain⟨⟨hb,_⟩,⟨h2,h3⟩,h4⟩:=hr
 have hp:partX x i=true:=by
  match i,hi with
  |0,_=>rfl
  |1,_=>rfl
  |2,_=>exact h2
  |3,_=>exact h3
  |4,_=>exact h4
 rcases says_ways hb hu i hi with ⟨_,b,h,hl⟩ | ⟨h,_⟩
 ·exact⟨b,h,by unfold bytesN;rw[h],hl⟩
 ·rw[hp] at h;cases h
end Go.Proofs.YtkjkhoglkpepiaaGreatDoor.nmc
namespace Go.Proofs.YtkjkhoglkpepiaaGreatDoor.nmc
open Go.RowKit tlvc tlvd ndc txc txm intc intm
def oddOfF (n:Nd):Od:=if n.kids.length=0 then ⟨[],false,[]⟩ else ⟨(oidF (kidF n 0).body).1,decide (2<n.kids.length),(kidF n (n.kids.length - 1)).body⟩
def parsedF (b:List Int):Nd:=match readAllF b with
 | .ok n _=>n
 | .bad _ _=>zeroN
def pathF:List Nd→Int
 | []=> -1
 |k::_=>(intF k.body).1
def taggedF (n:Nd)(t:Int):Nd:=(n.kids.find? (fun k=>decide (k.tag=t))).getD zeroN
def listedF (n:Nd):List Nd:=n.kids.take 16
def getNZ (n:Nd):List At:=(getN n).getD []
def getPZ (n:Nd):Pr:=(getP n).getD ⟨⟨#[]⟩,[]⟩
def oidZ (n:Nd):List Int:=(oidF n.body).1
def readX:Nat→Ex→Nd→Ex
 |0,x,s=>{x with hasCA:=true,ca:=decide (0<s.kids.length),path:=if 0<s.kids.length then pathF (s.kids.drop 1) else x.path}
 |1,x,s=>{x with usage:=(bitsF s.body).1}
 |2,x,s=>{x with eku:=(listedF s).map oidZ}
 |3,x,s=>{x with princs:=(listedF s).map getPZ}
 |_,x,s=>{x with permit:=(listedF (taggedF s 160)).map getNZ,exclude:=(listedF (taggedF s 161)).map getNZ}
def ex0:Ex:=⟨false,false,0,0,[],[],[],[],[]⟩
def toldL:List Nat→Ex→List Nd→Ex × List Nd
 | [],x,r=>(x,r)
 |_::_,x,[]=>(x,[])
 |i::is,x,k::ks=>if (oddOfF k).oid=koid i then toldL is (readX i x (parsedF (oddOfF k).body)) ks else toldL is x (k::ks)
theorem koid_obj {i:Nat}(hi:i<5):objB (koid i)=true:=by
 match i,hi with
 |0,_=>rfl
 |1,_=>rfl
 |2,_=>rfl
 |3,_=>rfl
 |4,_=>rfl
def whichF (o:List Int):Int:=if o=koid 0 then 0 else if o=koid 1 then 1 else if o=koid 2 then 2 else if o=koid 3 then 3 else if o=koid 4 then 4 else -1
theorem which_no {o:List Int}(h:o∉knownOids):whichF o= -1:=by
 unfold whichF
 rw[if_neg (fun e=>h (by rw[e];simp[knownOids])),if_neg (fun e=>h (by rw[e];simp[knownOids])),if_neg (fun e=>h (by rw[e];simp[knownOids])),if_neg (fun e=>h (by rw[e];simp[knownOids])),if_neg (fun e=>h (by rw[e];simp[knownOids]))]
end Go.Proofs.YtkjkhoglkpepiaaGreatDoor.nmc
