/- Extensions, read from a node: as the program tells them, and -/
import Derived.Test.YtconbejjagcnkaaGreatDoorYa
import Derived.Test.YtconbejjagcnkaaGreatDoorIe
import Derived.Test.YtconbejjagcnkaaGreatDoorPe
import Derived.Test.YtconbejjagcnkaaGreatDoorYj
set_option linter.unusedVariables false
set_option linter.unusedSimpArgs false
namespace Go.Proofs.YtconbejjagcnkaaGreatDoor.nmc
open Go.RowKit tlvc ndc
theorem Lst.stays {α:Type}{E:El α}{S:Nat→Prop}{w w':World}{A:Option Addr}{xs:List α}(hs:Stays S w w')(h:Lst E S w A xs):Lst E S w' A xs:=fun hn=>by
 obtain⟨g,off,e,hg,hB,hc⟩:=h hn
 refine⟨g,off,e,Nat.lt_of_lt_of_le hg hs.1,hB,fun i hi=>?_⟩
 obtain⟨cs,h1,h2⟩:=hc i hi
 exact⟨cs,fun j u hu=>(hs.2 ⟨g,off+i*E.sz+j,none⟩ hB hg).trans (h1 j u hu),E.stays hs h2⟩
theorem Lst.boundS {α:Type}{E:El α}{S:Nat→Prop}{w:World}{A:Option Addr}{xs:List α}(h:Lst E S w A xs):Lst E (fun g=>S g∧g<w.heap.size) w A xs:=fun hn=>by
 obtain⟨g,off,e,hg,hB,hc⟩:=h hn
 refine⟨g,off,e,hg,⟨hB,hg⟩,fun i hi=>?_⟩
 obtain⟨cs,h1,h2⟩:=hc i hi
 exact⟨cs,h1,E.bound h2⟩
def LsC {α:Type}(E:El α)(S:Nat→Prop)(w:World)(xs:List α)(c0:Value):Prop:=∃A c,c0=.slice A xs.length c∧xs.length≤c∧c≤maxLen∧Lst E S w A xs
def lsE {α:Type}(E:El α):El (List α) where
 sz:=1
 hold S w xs cs:=∃c0,cs=[c0]∧LsC E S w xs c0
 stays:=fun hs ⟨c0,e,A,c,e0,h1,h2,h3⟩=>⟨c0,e,A,c,e0,h1,h2,h3.stays hs⟩
 mono:=fun hS ⟨c0,e,A,c,e0,h1,h2,h3⟩=>⟨c0,e,A,c,e0,h1,h2,h3.mono hS⟩
 bound:=fun⟨c0,e,A,c,e0,h1,h2,h3⟩=>⟨c0,e,A,c,e0,h1,h2,h3.boundS⟩
 len:=fun⟨c0,e,_⟩=>by rw[e];rfl
 one:=fun⟨c0,e,A,c,e0,_⟩ u hu=>by
  subst e e0
  simp at hu
  subst hu;rfl
 pos:=by decide
def InC (S:Nat→Prop)(w:World)(xs:List Int)(c0:Value):Prop:=∃A la ca,c0=.slice A la ca∧la≤ca∧ca≤maxLen∧Ins w A la xs∧(0<la→∀g off sp,A=some ⟨g,off,sp⟩→S g)
theorem InC.stays {S:Nat→Prop}{w w':World}{xs:List Int}{c0:Value}(hs:Stays S w w')(h:InC S w xs c0):InC S w' xs c0:=by
 obtain⟨A,la,ca,e0,h1,h2,h3,h4⟩:=h
 exact⟨A,la,ca,e0,h1,h2,ins_stays hs h3 h4,h4⟩
theorem InC.mono {S S':Nat→Prop}{w:World}{xs:List Int}{c0:Value}(hS: ∀g,S g→S' g)(h:InC S w xs c0):InC S' w xs c0:=by
 obtain⟨A,la,ca,e0,h1,h2,h3,h4⟩:=h
 exact⟨A,la,ca,e0,h1,h2,h3,fun hl g off sp e=>hS _ (h4 hl g off sp e)⟩
theorem InC.bound {S:Nat→Prop}{w:World}{xs:List Int}{c0:Value}(h:InC S w xs c0):InC (fun g=>S g∧g<w.heap.size) w xs c0:=by
 obtain⟨A,la,ca,e0,h1,h2,h3,h4⟩:=h
 refine⟨A,la,ca,e0,h1,h2,h3,fun hl g off sp e=>⟨h4 hl g off sp e,?_⟩⟩
 obtain⟨b',off',e',hb',_⟩:=h3.2.2 hl
 rw[e'] at e;cases e;exact hb'
theorem InC.one {S:Nat→Prop}{w:World}{xs:List Int}{c0:Value}(h:InC S w xs c0):c0.oneCell'=true:=by
 obtain⟨A,la,ca,rfl,_⟩:=h;rfl
def inE:El (List Int) where
 sz:=1
 hold S w xs cs:=∃c0,cs=[c0]∧InC S w xs c0
 stays:=fun hs ⟨c0,e,h⟩=>⟨c0,e,h.stays hs⟩
 mono:=fun hS ⟨c0,e,h⟩=>⟨c0,e,h.mono hS⟩
 bound:=fun⟨c0,e,h⟩=>⟨c0,e,h.bound⟩
 len:=fun⟨c0,e,_⟩=>by rw[e];rfl
 one:=fun⟨c0,e,h⟩ u hu=>by
  subst e
  simp at hu
  subst hu;exact h.one
 pos:=by decide
def ByC (S:Nat→Prop)(w:World)(xs:List Int)(c0:Value):Prop:=∃A la ca,c0=.slice A la ca∧la≤ca∧ca≤maxLen∧Bys w A la xs∧(0<la→∀g off sp,A=some ⟨g,off,sp⟩→S g)
theorem ByC.stays {S:Nat→Prop}{w w':World}{xs:List Int}{c0:Value}(hs:Stays S w w')(h:ByC S w xs c0):ByC S w' xs c0:=by
 obtain⟨A,la,ca,e0,h1,h2,h3,h4⟩:=h
 exact⟨A,la,ca,e0,h1,h2,bys_stays hs h3 h4,h4⟩
theorem ByC.mono {S S':Nat→Prop}{w:World}{xs:List Int}{c0:Value}(hS: ∀g,S g→S' g)(h:ByC S w xs c0):ByC S' w xs c0:=by
 obtain⟨A,la,ca,e0,h1,h2,h3,h4⟩:=h
 exact⟨A,la,ca,e0,h1,h2,h3,fun hl g off sp e=>hS _ (h4 hl g off sp e)⟩
theorem ByC.bound {S:Nat→Prop}{w:World}{xs:List Int}{c0:Value}(h:ByC S w xs c0):ByC (fun g=>S g∧g<w.heap.size) w xs c0:=by
 obtain⟨A,la,ca,e0,h1,h2,h3,h4⟩:=h
 refine⟨A,la,ca,e0,h1,h2,h3,fun hl g off sp e=>⟨h4 hl g off sp e,?_⟩⟩
 obtain⟨b',off',e',hb',_⟩:=h3.2.2 hl
 rw[e'] at e;cases e;exact hb'
theorem ByC.one {S:Nat→Prop}{w:World}{xs:List Int}{c0:Value}(h:ByC S w xs c0):c0.oneCell'=true:=by
 obtain⟨A,la,ca,rfl,_⟩:=h;rfl
def prE:El Pr where
 sz:=2
 hold S w p cs:=∃c0 c1,cs=[c0,c1]∧PrC S w p c0 c1
 stays:=fun hs ⟨c0,c1,e,A,c,e0,e1,h1,h2,h3,h4⟩=>⟨c0,c1,e,A,c,e0,e1,h1,h2,h3.stays hs,h4⟩
 mono:=fun hS ⟨c0,c1,e,A,c,e0,e1,h1,h2,h3,h4⟩=>⟨c0,c1,e,A,c,e0,e1,h1,h2,h3.mono hS,h4⟩
 bound:=fun⟨c0,c1,e,A,c,e0,e1,h1,h2,h3,h4⟩=>⟨c0,c1,e,A,c,e0,e1,h1,h2,h3.boundS,h4⟩
 len:=fun⟨c0,c1,e,_⟩=>by rw[e];rfl
 one:=fun⟨c0,c1,e,A,c,e0,e1,_⟩ u hu=>by
  subst e e0 e1
  simp at hu
  rcases hu with rfl |rfl<;>rfl
 pos:=by decide
structure Od where
 oid:List Int
 crit:Bool
 body:List Int
instance:Inhabited Od:=⟨⟨[],false,[]⟩⟩
def OdC (S:Nat→Prop)(w:World)(o:Od)(c0 c1 c2:Value):Prop:=InC S w o.oid c0∧c1=.bool o.crit∧ByC S w o.body c2
def odE:El Od where
 sz:=3
 hold S w o cs:=∃c0 c1 c2,cs=[c0,c1,c2]∧OdC S w o c0 c1 c2
 stays:=fun hs ⟨c0,c1,c2,e,h1,h2,h3⟩=>⟨c0,c1,c2,e,h1.stays hs,h2,h3.stays hs⟩
 mono:=fun hS ⟨c0,c1,c2,e,h1,h2,h3⟩=>⟨c0,c1,c2,e,h1.mono hS,h2,h3.mono hS⟩
 bound:=fun⟨c0,c1,c2,e,h1,h2,h3⟩=>⟨c0,c1,c2,e,h1.bound,h2,h3.bound⟩
 len:=fun⟨c0,c1,c2,e,_⟩=>by rw[e];rfl
 one:=fun⟨c0,c1,c2,e,h1,h2,h3⟩ u hu=>by
  subst e h2
  simp at hu
  rcases hu with rfl |rfl |rfl
  ·exact h1.one
  ·rfl
  ·exact h3.one
 pos:=by decide
abbrev nmE:El (List At):=lsE atE
instance:Inhabited Pr:=⟨⟨⟨#[]⟩,[]⟩⟩
structure Ex where
 hasCA:Bool
 ca:Bool
 path:Int
 usage:Int
 eku:List (List Int)
 princs:List Pr
 permit:List (List At)
 exclude:List (List At)
 odd:List Od
instance:Inhabited Ex:=⟨⟨false,false,0,0,[],[],[],[],[]⟩⟩
structure ExC (S:Nat→Prop) (w:World) (x:Ex) (c0 c1 c2 c3 c4 c5 c6 c7 c8:Value):Prop where
 has:c0=.bool x.hasCA
 ca:c1=.bool x.ca
 path:c2=.int .i64 x.path
 i64: -9223372036854775808≤x.path∧x.path≤9223372036854775807
 usage:c3=.int .u16 x.usage
 u16:0≤x.usage∧x.usage≤65535
 eku:LsC inE S w x.eku c4
 princs:LsC prE S w x.princs c5
 permit:LsC nmE S w x.permit c6
 exclude:LsC nmE S w x.exclude c7
 odd:LsC odE S w x.odd c8
theorem LsC.on {α:Type}{E:El α}{S S':Nat→Prop}{w w':World}{xs:List α}{c0:Value}(h:LsC E S w xs c0)(hs:w.heap.size≤w'.heap.size)(hk: ∀g,S g→g<w.heap.size→w'.heap[g]? =w.heap[g]?)(hS: ∀g,S g→g<w.heap.size→S' g):LsC E S' w' xs c0:=by
 obtain⟨A,c,e,h1,h2,h3⟩:=h
 exact⟨A,c,e,h1,h2,h3.on hs hk hS⟩
theorem LsC.below {α:Type}{E:El α}{S:Nat→Prop}{w w':World}{xs:List α}{c0:Value}(h:LsC E S w xs c0)(hb:Below w.heap.size w w'):LsC E S w' xs c0:=h.on hb.size (fun g _ hg=>hb.block g hg) (fun g h _=>h)
theorem LsC.nil {α:Type}{E:El α}{S:Nat→Prop}{w:World}:LsC E S w [] (.slice none 0 0):=⟨none,0,rfl,lr_ _,Nat.zero_le _,Lst.nil _ _ _⟩
theorem ExC.on {S S':Nat→Prop}{w w':World}{x:Ex}{c0 c1 c2 c3 c4 c5 c6 c7 c8:Value}(h:ExC S w x c0 c1 c2 c3 c4 c5 c6 c7 c8)(hs:w.heap.size≤w'.heap.size)(hk: ∀g,S g→g<w.heap.size→w'.heap[g]? =w.heap[g]?)(hS: ∀g,S g→g<w.heap.size→S' g):ExC S' w' x c0 c1 c2 c3 c4 c5 c6 c7 c8:=
 ⟨h.has,h.ca,h.path,h.i64,h.usage,h.u16,h.eku.on hs hk hS,h.princs.on hs hk hS,h.permit.on hs hk hS,h.exclude.on hs hk hS,h.odd.on hs hk hS⟩
theorem ExC.below {S:Nat→Prop}{w w':World}{x:Ex}{c0 c1 c2 c3 c4 c5 c6 c7 c8:Value}(h:ExC S w x c0 c1 c2 c3 c4 c5 c6 c7 c8)(hb:Below w.heap.size w w'):ExC S w' x c0 c1 c2 c3 c4 c5 c6 c7 c8:=h.on hb.size (fun g _ hg=>hb.block g hg) (fun g h _=>h)
theorem InC.below {S:Nat→Prop}{w w':World}{xs:List Int}{c0:Value}(h:InC S w xs c0)(hb:Below w.heap.size w w'):InC S w' xs c0:=h.stays ⟨hb.size,fun p _ hl=>hb.cell hl⟩
theorem ByC.below {S:Nat→Prop}{w w':World}{xs:List Int}{c0:Value}(h:ByC S w xs c0)(hb:Below w.heap.size w w'):ByC S w' xs c0:=h.stays ⟨hb.size,fun p _ hl=>hb.cell hl⟩
theorem OdC.below {S:Nat→Prop}{w w':World}{o:Od}{c0 c1 c2:Value}(h:OdC S w o c0 c1 c2)(hb:Below w.heap.size w w'):OdC S w' o c0 c1 c2:=⟨h.1.below hb,h.2.1,h.2.2.below hb⟩
theorem El.below {α:Type}{E:El α}{S:Nat→Prop}{w w':World}{x:α}{cs:List Value}(h:E.hold S w x cs)(hb:Below w.heap.size w w'):E.hold S w' x cs:=E.stays ⟨hb.size,fun p _ hl=>hb.cell hl⟩ h
open dtc
theorem in_of {w:World}{d:Dt}{cs:List Value}(hs:IsSh (.row (.int .i64)) d)(h:Lies (fun _=>True) w d cs)(hf:fitDt d): ∃a:List Int,inE.hold (fun _=>True) w a cs∧True:=by
 unfold IsSh at hs
 obtain⟨l,rfl,hl⟩:=hs
 unfold Lies at h
 obtain⟨A,c,rfl,k1,k2,k3⟩:=h
 obtain⟨xs,hi⟩:=ins_of (A:=A) (c:=c) hl k3
 exact⟨xs,⟨_,rfl,A,l.length,c,rfl,k1,k2,hi,fun _ _ _ _ _=>trivial⟩,trivial⟩
theorem ls_of {α:Type}[Inhabited α]{E:El α}{s:Sh}{w:World}{P:α→Prop}(one: ∀(d:Dt) (cs:List Value),IsSh s d→Lies (fun _=>True) w d cs→fitDt d→∃a:α,E.hold (fun _=>True) w a cs∧P a)(hsz:s.sz=E.sz){d:Dt}{cs:List Value}(hs:IsSh (.row s) d)(h:Lies (fun _=>True) w d cs)(hf:fitDt d): ∃xs:List α,(∃c0,cs=[c0]∧LsC E (fun _=>True) w xs c0)∧∀x∈xs,P x:=by
 unfold IsSh at hs
 obtain⟨l,rfl,hl⟩:=hs
 unfold Lies at h
 obtain⟨A,c,rfl,k1,k2,k3⟩:=h
 unfold fitDt at hf
 obtain⟨xs,h1,h2,h3⟩:=list_of one hsz hl hf (A:=A) (fun hn=>by
  obtain⟨g,off,e,hg,_,hr⟩:=k3 hn
  rw[hsz] at hr⊢
  exact⟨g,off,e,hg,hr⟩)
 exact⟨xs,⟨_,rfl,A,c,by rw[h1],by rw[h1];exact k1,k2,h2⟩,h3⟩
end Go.Proofs.YtconbejjagcnkaaGreatDoor.nmc
namespace Go.Proofs.YtconbejjagcnkaaGreatDoor.nmc
open Go.RowKit tlvc tlvd ndc txc txm intc intm
def okW (n:Nd)(o L:Nat):Prop:=∃b,writeF n o=.ok b∧b.length≤L
theorem okW.mono {n:Nd}{o L M:Nat}(h:okW n o L)(hl:L≤M):okW n o M:=by
 obtain⟨b,h1,h2⟩:=h
 exact⟨b,h1,Nat.le_trans h2 hl⟩
theorem putBytes_le (t:Int)(xs:List Int):(putBytes t xs).length≤xs.length+4:=by
 rw[put_len,hdr_length]
 split
 ·omega
 ·split<;>omega
theorem leafW {t:Int}{b:List Int}{o:Nat}(ho:o<32)(ht:t%32≠31)(hc:compB t=false)(he:endlessB t=false)(hb:b.length≤65535):writeF (.mk t b []) o=if mayF t b=true then .ok (putBytes t b) else .no 43:=by
 unfold writeF aloneF
 rw[if_neg (by omega: ¬32≤o),if_neg ht]
 by_cases hm:mayF t b=true
 ·rw[if_pos hm,if_neg (by decide),if_pos hm]
  have hmis:misF t b ([]:List Nd).length=false:=by unfold misF;rw[hc];rfl
  rw[hmis,hc,if_neg (by decide),if_neg (by decide)]
  exact putW_put he hb
 ·rw[if_neg hm,if_pos (by decide),if_neg hm]
theorem leaf_ok {t:Int}{b:List Int}{o:Nat}(ho:o<32)(ht:t%32≠31)(hc:compB t=false)(he:endlessB t=false)(hb:b.length≤65535)(hm:mayF t b=true):okW (.mk t b []) o (b.length+4):=
 ⟨_,by rw[leafW ho ht hc he hb,if_pos hm],putBytes_le _ _⟩
theorem listW {o L:Nat}: ∀(ks:List Nd) (k:WK),(∀n∈ks,okW n o L)→k.body.length+ks.length*L≤65535→∃k',writeL ks o k=.ok k'∧k'.body.length≤k.body.length+ks.length*L
 | [],k,_,_=>⟨k,writeL_nil,by omega⟩
 |n::ks,k,h,hl=>by
  obtain⟨b,h1,h2⟩:=h n (by simp)
  rw[List.length_cons,Nat.succ_mul] at hl⊢
  have hk:(k.add b).body.length≤k.body.length+L:=by
   unfold WK.add
   simp only
   split
   ·rw[List.length_append];omega
   ·omega
  obtain⟨k',h3,h4⟩:=listW ks (k.add b) (fun m hm=>h m (by simp[hm])) (by omega)
  exact⟨k',by rw[writeL_ok h1];exact h3,by omega⟩
theorem seq_tag {t:Int}(ht:t=48∨t=160∨t=161):t%32≠31∧compB t=true∧endlessB t=false∧mayF t []=true∧t≠49:=by
 rcases ht with rfl |rfl |rfl
 ·exact⟨by decide,by decide,by decide,rfl,by decide⟩
 ·exact⟨by decide,by decide,by decide,rfl,by decide⟩
 ·exact⟨by decide,by decide,by decide,rfl,by decide⟩
theorem seqF_of {t:Int}{ks:List Nd}{o:Nat}(ho:o<32)(ht:t=48∨t=160∨t=161):writeF (.mk t [] ks) o=finW t (kresF t (writeL ks (o+1) wk0)):=by
 obtain⟨h1,h2,h3,h4,h5⟩:=seq_tag ht
 unfold writeF aloneF
 rw[if_neg (by omega: ¬32≤o),if_neg h1,if_pos h4,if_neg (by decide)]
 have hmis:misF t [] ks.length=false:=by unfold misF;rw[h2];rfl
 rw[hmis,h2,if_neg (by decide),if_pos rfl]
theorem seqW {t:Int}{ks:List Nd}{o L:Nat}(ho:o<32)(ht:t=48∨t=160∨t=161)(h: ∀n∈ks,okW n (o+1) L)(hl:ks.length*L≤65535):okW (.mk t [] ks) o (ks.length*L+4):=by
 obtain⟨k,h1,h2⟩:=listW ks wk0 h (by show 0+_≤_;omega)
 obtain⟨_,_,g3,_,g5⟩:=seq_tag ht
 have h2:k.body.length≤ks.length*L:=by have:(wk0.body).length=0:=rfl;omega
 refine⟨putBytes t k.body,?_,Nat.le_trans (putBytes_le _ _) (by omega)⟩
 rw[seqF_of ho ht,h1]
 unfold kresF
 simp only
 rw[if_neg (fun e=>g5 e.1)]
 exact putW_put g3 (by omega)
def zeroN:Nd:=.mk 0 [] []
def numN (n:Int):Nd:=.mk 2 (putI n) []
def oidN (l:List Int):Nd:=.mk 6 (putO l).1 []
theorem oidN_of {l:List Int}(h:objB l=true):oidN l=.mk 6 (encO l) []:=by unfold oidN;rw[putO_yes h]
theorem oid_ok {l:List Int}{o:Nat}(ho:o<32)(h:objB l=true):okW (oidN l) o 64:=by
 rw[oidN_of h]
 have hl:=encO_length h
 refine(leaf_ok (t:=6) (b:=encO l) ho (by decide) (by decide) (by decide) (by omega) ?_).mono (by omega)
 have e:mayF 6 (encO l)=decide ((oidF (encO l)).2=0):=rfl
 rw[e,oidF_enc h]
 rfl
theorem attr_ok {a:At}{o:Nat}(ho:o+1<32)(h:attrOK a=true):okW (attrN a) o 140:=by
 unfold attrOK at h
 rw[Bool.and_eq_true,Bool.and_eq_true,decide_eq_true_eq] at h
 refine(seqW (L:=68) (by omega) (.inl rfl) (fun n hn=>?_) (by simp)).mono (by simp)
 simp only[List.mem_cons,List.mem_nil_iff,or_false] at hn
 rcases hn with rfl |rfl
 ·have:=oid_ok (o:=o+1) ho h.1.1
  rw[oidN_of h.1.1] at this
  exact this.mono (by decide)
 ·have hl:=bytesI_length a.text
  refine(leaf_ok ho (by decide) (by decide) (by decide) (by omega) ?_).mono (by omega)
  have e:mayF 12 (bytesI a.text)=utfB (bytesI a.text):=rfl
  rw[e,utf_bytesI]
  exact h.2
theorem name_ok {l:List At}{o:Nat}(ho:o+2<32)(h:rightN l=true):okW (nameN l) o 1124:=by
 unfold rightN at h
 rw[Bool.and_eq_true,decide_eq_true_eq,List.all_eq_true] at h
 have hl:(l.map attrN).length≤8:=by rw[List.length_map];exact h.1
 refine(seqW (L:=140) (by omega) (.inl rfl) (fun n hn=>?_) (by omega)).mono (by omega)
 obtain⟨a,ha,rfl⟩:=List.mem_map.1 hn
 exact attr_ok (by omega) (h.2 a ha)
theorem intF_put' {n:Int}(hn:I64 n):intF (putI n)=(n,0):=by
 have h1:=putI_length n
 have h2:=width_bd n
 have e:dec ((putI n).take 8)=n:=by rw[List.take_of_length_le (by omega),dec_put hn]
 unfold intF
 rw[e,if_pos rfl]
end Go.Proofs.YtconbejjagcnkaaGreatDoor.nmc
namespace Go.Proofs.YtconbejjagcnkaaGreatDoor.nmc
open Go.RowKit tlvc tlvd ndc txc txm intc intm
end Go.Proofs.YtconbejjagcnkaaGreatDoor.nmc
