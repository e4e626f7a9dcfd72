/- Certificates: plain. -/
import Derived.Test.YtconbejjagcnkaaGreatDoorAc
import Derived.Test.YtconbejjagcnkaaGreatDoorQt
import Derived.Test.YtconbejjagcnkaaGreatDoorQv
set_option maxRecDepth 100000
set_option maxHeartbeats 8000000
set_option linter.unusedVariables false
set_option linter.unusedSimpArgs false
namespace Go.Proofs.YtconbejjagcnkaaGreatDoor.nmc
open Go.RowKit tlvc tlvd ndc txc txm intc intm vtc
structure Ce where
 ser:Int
 iss:List At
 frm:Int
 til:Int
 sub:List At
 key:Int
 ex:Ex
 sig:Int
def inRB (s:Int):Bool:=decide (-631152000≤s) && decide (s≤253402300799)
theorem inRB_iff {s:Int}:inRB s=true↔InR s:=by unfold inRB InR;simp
def hOK (n:Int):Bool:=decide (0≤n) && decide (n<281474976710656)
theorem hOK_iff {n:Int}:hOK n=true↔0≤n∧n<281474976710656:=by unfold hOK;simp
def timeNd (s:Int):Nd:=.mk (tagOf s) (bodyOf s) []
def hNd (n:Int):Nd:=.mk 4 (hbF n) []
def timeO (n:Nd):Option Int:=if timeE n.tag n.body=0 then some (timeN n.tag n.body) else none
def intO (n:Nd):Option Int:=if (intF n.body).2=0 then some (intF n.body).1 else none
def okB (r:WR)(b:List Int):Bool:=match r with
 | .ok x=>decide (x=b)
 | .no _=>false
theorem okB_iff {r:WR}{b:List Int}:okB r b=true↔r=.ok b:=by
 unfold okB
 cases r with
 |ok x=>simp
 |no e=>simp
theorem timeO_back {s:Int}(h:InR s):timeO (timeNd s)=some s:=by
 obtain⟨h1,h2⟩:=okT_back h
 show(if timeE (tagOf s) (bodyOf s)=0 then some (timeN (tagOf s) (bodyOf s)) else none)=_
 unfold timeE timeN
 rw[if_pos h1,if_pos rfl,if_pos h1,h2]
theorem intO_back {n:Int}(h:0≤n∧n≤4611686018427387904):intO (numN n)=some n:=by
 show(if (intF (putI n)).2=0 then some (intF (putI n)).1 else none)=_
 rw[intF_put' (show I64 n by unfold I64;omega),if_pos rfl]
theorem write_inj {m n:Nd}{b:List Int}(h:writeF m 0=.ok b)(k:writeF n 0=.ok b):m=n:=by
 have e:=(read_all_back h).symm.trans (read_all_back k)
 cases e
 rfl
end Go.Proofs.YtconbejjagcnkaaGreatDoor.nmc
