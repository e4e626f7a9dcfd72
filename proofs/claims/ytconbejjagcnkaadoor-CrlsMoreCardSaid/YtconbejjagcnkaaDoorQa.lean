/- Certificates: plain. -/
import Derived.Test.YtconbejjagcnkaaDoorAc
import Derived.Test.YtconbejjagcnkaaDoorQt
import Derived.Test.YtconbejjagcnkaaDoorQv
set_option maxRecDepth 100000
set_option maxHeartbeats 8000000
set_option linter.unusedVariables false
set_option linter.unusedSimpArgs false
namespace Go.Proofs.YtconbejjagcnkaaDoor.nmc
open Go.RowKit tlvc tlvd ndc txc txm intc intm vtc
structure Ce where
 ser:Int
 iss:List At
 frm:Int
 til:Int
 sub:List At
 key:Int
 ex:Ex
 sig:Int
def inRB (s:Int):Bool:=decide (-631152000≤s) && decide (s≤253402300799)
theorem inRB_iff {s:Int}:inRB s=true↔InR s:=by unfold inRB InR;simp
def hOK (n:Int):Bool:=decide (0≤n) && decide (n<281474976710656)
theorem hOK_iff {n:Int}:hOK n=true↔0≤n∧n<281474976710656:=by unfold hOK;simp
def timeNd (s:Int):Nd:=.mk (tagOf s) (bodyOf s) []
def hNd (n:Int):Nd:=.mk 4 (hbF n) []
def serOK (n:Int):Bool:=decide (0≤n) && decide (n≤4611686018427387904)
def rightC (c:Ce):Bool:=serOK c.ser && (rightN c.iss && (inRB c.frm && (inRB c.til && (rightN c.sub && (hOK c.key && (rightX c.ex && hOK c.sig))))))
def moreL (x:Ex):List Nd:=if (nodeX x).kids.length=0 then [] else [.mk 163 [] [nodeX x]]
def bodyC (c:Ce):Nd:=.mk 48 [] ([numN c.ser,nameN c.iss,.mk 48 [] [timeNd c.frm,timeNd c.til],nameN c.sub,hNd c.key]++moreL c.ex)
def nodeC (c:Ce):Nd:=.mk 48 [] [bodyC c,hNd c.sig]
def unsig (c:Ce):Ce:={c with sig:=0}
theorem rightC_parts {c:Ce}(h:rightC c=true):(0≤c.ser∧c.ser≤4611686018427387904)∧rightN c.iss=true∧InR c.frm∧InR c.til∧rightN c.sub=true∧(0≤c.key∧c.key<281474976710656)∧rightX c.ex=true∧(0≤c.sig∧c.sig<281474976710656):=by
 unfold rightC serOK at h
 simp only[Bool.and_eq_true,decide_eq_true_eq,inRB_iff,hOK_iff] at h
 obtain⟨h1,h2,h3,h4,h5,h6,h7,h8⟩:=h
 exact⟨h1,h2,h3,h4,h5,h6,h7,h8⟩
def exTold (l:List Nd):Option Ex:=match l with
 | []=>some ex0
 |m::_=>if m.kids.length=1 then getX (kidF m 0) else none
def timeO (n:Nd):Option Int:=if timeE n.tag n.body=0 then some (timeN n.tag n.body) else none
def intO (n:Nd):Option Int:=if (intF n.body).2=0 then some (intF n.body).1 else none
def toldK (k:List Nd)(z:Nd):Option Ce:=
 if k.length=5∨k.length=6 then
  if (k.getD 2 zeroN).kids.length=2 then
   (intO (k.getD 0 zeroN)).bind fun s=>(getN (k.getD 1 zeroN)).bind fun i=>(timeO (kidF (k.getD 2 zeroN) 0)).bind fun f=>(timeO (kidF (k.getD 2 zeroN) 1)).bind fun t=>(getN (k.getD 3 zeroN)).bind fun u=>(numF (k.getD 4 zeroN).body).bind fun y=>(exTold (k.drop 5)).bind fun x=>(numF z.body).bind fun g=>some ⟨s,i,f,t,u,y,x,g⟩
  else none
 else none
def toldC (n:Nd):Option Ce:=if n.kids.length=2 then toldK (kidF n 0).kids (kidF n 1) else none
def okB (r:WR)(b:List Int):Bool:=match r with
 | .ok x=>decide (x=b)
 | .no _=>false
theorem okB_iff {r:WR}{b:List Int}:okB r b=true↔r=.ok b:=by
 unfold okB
 cases r with
 |ok x=>simp
 |no e=>simp
def getC (n:Nd)(b:List Int):Option Ce:=(toldC n).bind fun c=>if rightC c=true∧okB (writeF (nodeC c) 0) b=true then some c else none
theorem timeO_back {s:Int}(h:InR s):timeO (timeNd s)=some s:=by
 obtain⟨h1,h2⟩:=okT_back h
 show(if timeE (tagOf s) (bodyOf s)=0 then some (timeN (tagOf s) (bodyOf s)) else none)=_
 unfold timeE timeN
 rw[if_pos h1,if_pos rfl,if_pos h1,h2]
theorem intO_back {n:Int}(h:0≤n∧n≤4611686018427387904):intO (numN n)=some n:=by
 show(if (intF (putI n)).2=0 then some (intF (putI n)).1 else none)=_
 rw[intF_put' (show I64 n by unfold I64;omega),if_pos rfl]
theorem nodeX_none {x:Ex}(hu:0≤x.usage∧x.usage≤65535)(hr:rightX x=true)(h:(nodeX x).kids.length=0):x=ex0:=by
 have e:=toldX_node hu hr
 have hk:(nodeX x).kids=[]:=List.eq_nil_of_length_eq_zero h
 unfold toldX at e
 rw[hk] at e
 rw[←e]
 rfl
theorem exTold_more {x:Ex}(hu:0≤x.usage∧x.usage≤65535)(hr:rightX x=true):exTold (moreL x)=some x:=by
 unfold moreL
 by_cases h:(nodeX x).kids.length=0
 ·rw[if_pos h,nodeX_none hu hr h];rfl
 ·rw[if_neg h]
  show(if ([nodeX x]:List Nd).length=1 then getX (kidF (.mk 163 [] [nodeX x]) 0) else none)=_
  rw[if_pos (show([nodeX x]:List Nd).length=1 from rfl)]
  exact getX_node hu hr
theorem toldC_node {c:Ce}(hu:0≤c.ex.usage∧c.ex.usage≤65535)(hr:rightC c=true):toldC (nodeC c)=some c:=by
 obtain⟨h1,h2,h3,h4,h5,h6,h7,h8⟩:=rightC_parts hr
 have hk:(bodyC c).kids=[numN c.ser,nameN c.iss,.mk 48 [] [timeNd c.frm,timeNd c.til],nameN c.sub,hNd c.key]++moreL c.ex:=rfl
 have hl:(bodyC c).kids.length=5∨(bodyC c).kids.length=6:=by
  rw[hk]
  unfold moreL
  split
  ·exact .inl rfl
  ·exact .inr rfl
 have e:toldC (nodeC c)=toldK (bodyC c).kids (hNd c.sig):=if_pos (show(nodeC c).kids.length=2 from rfl)
 obtain⟨x,hx⟩:=nm_ (moreL c.ex)
 have hm:=exTold_more hu h7
 rw[hx] at hk hm
 rw[e]
 unfold toldK
 rw[if_pos hl,hk]
 show(if ([timeNd c.frm,timeNd c.til]:List Nd).length=2 then (intO (numN c.ser)).bind fun s=>(getN (nameN c.iss)).bind fun i=>(timeO (timeNd c.frm)).bind fun f=>(timeO (timeNd c.til)).bind fun t=>(getN (nameN c.sub)).bind fun u=>(numF (hbF c.key)).bind fun y=>(exTold x).bind fun x=>(numF (hbF c.sig)).bind fun g=>some (⟨s,i,f,t,u,y,x,g⟩:Ce) else none)=_
 rw[if_pos (show([timeNd c.frm,timeNd c.til]:List Nd).length=2 from rfl),intO_back h1,getN_name h2,timeO_back h3,timeO_back h4,getN_name h5,num_hb h6,hm,num_hb h8]
 rfl
theorem getC_back {c:Ce}{b:List Int}(hu:0≤c.ex.usage∧c.ex.usage≤65535)(hr:rightC c=true)(hb:writeF (nodeC c) 0=.ok b):getC (nodeC c) b=some c:=by
 unfold getC
 rw[toldC_node hu hr]
 show(if rightC c=true∧okB (writeF (nodeC c) 0) b=true then some c else none)=_
 rw[if_pos ⟨hr,okB_iff.2 hb⟩]
theorem getC_some {n:Nd}{b:List Int}{c:Ce}(h:getC n b=some c):rightC c=true∧writeF (nodeC c) 0=.ok b:=by
 unfold getC at h
 cases ht:toldC n with
 |none=>rw[ht] at h;cases h
 |some d=>
  rw[ht] at h
  have h:(if rightC d=true∧okB (writeF (nodeC d) 0) b=true then some d else none)=some c:=h
  split at h
  ·rename_i hc
   cases h
   exact⟨hc.1,okB_iff.1 hc.2⟩
  ·cases h
theorem write_inj {m n:Nd}{b:List Int}(h:writeF m 0=.ok b)(k:writeF n 0=.ok b):m=n:=by
 have e:=(read_all_back h).symm.trans (read_all_back k)
 cases e
 rfl
theorem bodyC_inj {c d:Ce}(hu:0≤c.ex.usage∧c.ex.usage≤65535)(hv:0≤d.ex.usage∧d.ex.usage≤65535)(hr:rightC c=true)(hq:rightC d=true)(h:bodyC c=bodyC d):{d with sig:=c.sig}=c:=by
 have h1:=toldC_node hu hr
 have h2:=toldC_node (c:={d with sig:=c.sig}) hv (by
  obtain⟨g1,g2,g3,g4,g5,g6,g7,g8⟩:=rightC_parts hq
  have g9:=(rightC_parts hr).2.2.2.2.2.2.2
  unfold rightC serOK
  simp only[Bool.and_eq_true,decide_eq_true_eq,inRB_iff,hOK_iff]
  exact⟨g1,g2,g3,g4,g5,g6,g7,g9⟩)
 have e:nodeC {d with sig:=c.sig}=nodeC c:=by
  show Nd.mk 48 [] [bodyC {d with sig:=c.sig},hNd c.sig]=Nd.mk 48 [] [bodyC c,hNd c.sig]
  rw[h]
  rfl
 rw[e,h1] at h2
 exact(Option.some.inj h2).symm
end Go.Proofs.YtconbejjagcnkaaDoor.nmc
