/- Lists of integers, of principals, of names, of odd extensions as lists in memory; extensions in nine cells. Nothing here names the program. -/
import Derived.Test.YtclmaglkekkigaaYa
namespace Go.Proofs.Ytclmaglkekkigaa.nmc
open Go.RowKit Go.Proofs.Ytclmaglkekkigaa.tlvc Go.Proofs.Ytclmaglkekkigaa.ndc
set_option linter.unusedVariables false
theorem Lst.stays {α:Type}{E:El α}{S:Nat→Prop}{w w':World}{A:Option Addr}{xs:List α}(hs:Stays S w w')(h:Lst E S w A xs):Lst E S w' A xs:=fun hn=>by
  obtain⟨g,off,e,hg,hB,hc⟩:=h hn
  refine⟨g,off,e,Nat.lt_of_lt_of_le hg hs.1,hB,fun i hi=>?_⟩
  obtain⟨cs,h1,h2⟩:=hc i hi
  exact⟨cs,fun j u hu=>(hs.2 ⟨g,off+i*E.sz+j,none⟩ hB hg).trans (h1 j u hu),E.stays hs h2⟩
theorem Lst.boundS {α:Type}{E:El α}{S:Nat→Prop}{w:World}{A:Option Addr}{xs:List α}(h:Lst E S w A xs):Lst E (fun g=>S g∧g<w.heap.size) w A xs:=fun hn=>by
  obtain⟨g,off,e,hg,hB,hc⟩:=h hn
  refine⟨g,off,e,hg,⟨hB,hg⟩,fun i hi=>?_⟩
  obtain⟨cs,h1,h2⟩:=hc i hi
  exact⟨cs,h1,E.bound h2⟩
/-- A list in one cell. -/
def LsC {α:Type}(E:El α)(S:Nat→Prop)(w:World)(xs:List α)(c0:Value):Prop:=∃A c,c0=.slice A xs.length c∧xs.length≤c∧c≤maxLen∧Lst E S w A xs
def lsE {α:Type}(E:El α):El (List α) where
  sz:=1
  hold S w xs cs:=∃c0,cs=[c0]∧LsC E S w xs c0
  stays:=fun hs ⟨c0,e,A,c,e0,h1,h2,h3⟩=>⟨c0,e,A,c,e0,h1,h2,h3.stays hs⟩
  mono:=fun hS ⟨c0,e,A,c,e0,h1,h2,h3⟩=>⟨c0,e,A,c,e0,h1,h2,h3.mono hS⟩
  bound:=fun⟨c0,e,A,c,e0,h1,h2,h3⟩=>⟨c0,e,A,c,e0,h1,h2,h3.boundS⟩
  len:=fun⟨c0,e,_⟩=>by rw[e];rfl
  one:=fun⟨c0,e,A,c,e0,_⟩ u hu=>by
    subst e e0
    simp at hu
    subst hu;rfl
  pos:=by decide
/-- An object's numbers in one cell. -/
def InC (S:Nat→Prop)(w:World)(xs:List Int)(c0:Value):Prop:=∃A la ca,c0=.slice A la ca∧la≤ca∧ca≤maxLen∧Ins w A la xs∧(0<la→∀g off sp,A=some ⟨g,off,sp⟩→S g)
theorem InC.stays {S:Nat→Prop}{w w':World}{xs:List Int}{c0:Value}(hs:Stays S w w')(h:InC S w xs c0):InC S w' xs c0:=by
  obtain⟨A,la,ca,e0,h1,h2,h3,h4⟩:=h
  exact⟨A,la,ca,e0,h1,h2,ins_stays hs h3 h4,h4⟩
theorem InC.mono {S S':Nat→Prop}{w:World}{xs:List Int}{c0:Value}(hS: ∀g,S g→S' g)(h:InC S w xs c0):InC S' w xs c0:=by
  obtain⟨A,la,ca,e0,h1,h2,h3,h4⟩:=h
  exact⟨A,la,ca,e0,h1,h2,h3,fun hl g off sp e=>hS _ (h4 hl g off sp e)⟩
theorem InC.bound {S:Nat→Prop}{w:World}{xs:List Int}{c0:Value}(h:InC S w xs c0):InC (fun g=>S g∧g<w.heap.size) w xs c0:=by
  obtain⟨A,la,ca,e0,h1,h2,h3,h4⟩:=h
  refine⟨A,la,ca,e0,h1,h2,h3,fun hl g off sp e=>⟨h4 hl g off sp e,?_⟩⟩
  obtain⟨b',off',e',hb',_⟩:=h3.2.2 hl
  rw[e'] at e;cases e;exact hb'
theorem InC.one {S:Nat→Prop}{w:World}{xs:List Int}{c0:Value}(h:InC S w xs c0):c0.oneCell'=true:=by
  obtain⟨A,la,ca,rfl,_⟩:=h;rfl
def inE:El (List Int) where
  sz:=1
  hold S w xs cs:=∃c0,cs=[c0]∧InC S w xs c0
  stays:=fun hs ⟨c0,e,h⟩=>⟨c0,e,h.stays hs⟩
  mono:=fun hS ⟨c0,e,h⟩=>⟨c0,e,h.mono hS⟩
  bound:=fun⟨c0,e,h⟩=>⟨c0,e,h.bound⟩
  len:=fun⟨c0,e,_⟩=>by rw[e];rfl
  one:=fun⟨c0,e,h⟩ u hu=>by
    subst e
    simp at hu
    subst hu;exact h.one
  pos:=by decide
abbrev nmE:El (List At):=lsE atE
theorem LsC.on {α:Type}{E:El α}{S S':Nat→Prop}{w w':World}{xs:List α}{c0:Value}(h:LsC E S w xs c0)(hs:w.heap.size≤w'.heap.size)(hk: ∀g,S g→g<w.heap.size→w'.heap[g]? =w.heap[g]?)(hS: ∀g,S g→g<w.heap.size→S' g):LsC E S' w' xs c0:=by
  obtain⟨A,c,e,h1,h2,h3⟩:=h
  exact⟨A,c,e,h1,h2,h3.on hs hk hS⟩
theorem LsC.below {α:Type}{E:El α}{S:Nat→Prop}{w w':World}{xs:List α}{c0:Value}(h:LsC E S w xs c0)(hb:Below w.heap.size w w'):LsC E S w' xs c0:=h.on hb.size (fun g _ hg=>hb.block g hg) (fun g h _=>h)
theorem LsC.nil {α:Type}{E:El α}{S:Nat→Prop}{w:World}:LsC E S w [] (.slice none 0 0):=⟨none,0,rfl,Nat.le_refl _,Nat.zero_le _,Lst.nil _ _ _⟩
theorem InC.below {S:Nat→Prop}{w w':World}{xs:List Int}{c0:Value}(h:InC S w xs c0)(hb:Below w.heap.size w w'):InC S w' xs c0:=h.stays ⟨hb.size,fun p _ hl=>hb.cell hl⟩
theorem El.below {α:Type}{E:El α}{S:Nat→Prop}{w w':World}{x:α}{cs:List Value}(h:E.hold S w x cs)(hb:Below w.heap.size w w'):E.hold S w' x cs:=E.stays ⟨hb.size,fun p _ hl=>hb.cell hl⟩ h
/-! ### As arguments -/
open Go.Proofs.Ytclmaglkekkigaa.dtc
theorem one_cell {a b:Value}{l:List Value}(h:a::l=[b]):a=b∧l=[]:=by simpa using h
end Go.Proofs.Ytclmaglkekkigaa.nmc
