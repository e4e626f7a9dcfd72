/- Lists of what was taken back: what any node tells, and serials held one by one: plain. -/
import Derived.Test.YtconbejjagcnkaaGreatDoorWa
set_option maxRecDepth 100000
set_option maxHeartbeats 8000000
set_option linter.unusedVariables false
set_option linter.unusedSimpArgs false
namespace Go.Proofs.YtconbejjagcnkaaGreatDoor.nmc
open Go.RowKit tlvc tlvd ndc txc txm intc intm vtc
def tellL (n:Nd):Cr:=⟨(getN (kidF (kidF n 0) 0)).getD [],timeN (kidF (kidF n 0) 1).tag (kidF (kidF n 0) 1).body,timeN (kidF (kidF n 0) 2).tag (kidF (kidF n 0) 2).body,((kidF (kidF n 0) 3).kids.take 256).map (fun k=>(intF k.body).1),(numF (kidF n 1).body).getD (-1)⟩
theorem timeN_back {s:Int}(h:InR s):timeN (timeNd s).tag (timeNd s).body=s:=by
 obtain⟨h1,h2⟩:=okT_back h
 show timeN (tagOf s) (bodyOf s)=s
 unfold timeN
 rw[if_pos h1,h2]
theorem sers_back: ∀(l:List Int),l.all serB=true→(l.map numN).map (fun k=>(intF k.body).1)=l
 | [],_=>rfl
 |v::l,h=>by
  simp only[List.all_cons,Bool.and_eq_true] at h
  have hv:=serB_iff.1 h.1
  rw[List.map_cons,List.map_cons,sers_back l h.2]
  show(intF (putI v)).1::l=v::l
  rw[intF_put' (show I64 v by unfold I64;omega)]
theorem tellL_node {c:Cr}(hr:rightL c=true):tellL (nodeL c)=c:=by
 obtain⟨h1,h2,h3,h4,h5⟩:=rightL_parts hr
 unfold sersB at h4
 simp only[Bool.and_eq_true,decide_eq_true_eq] at h4
 have e:tellL (nodeL c)=⟨(getN (nameN c.iss)).getD [],timeN (timeNd c.ths).tag (timeNd c.ths).body,timeN (timeNd c.nxt).tag (timeNd c.nxt).body,((c.sers.map numN).take 256).map (fun k=>(intF k.body).1),(numF (hbF c.sig)).getD (-1)⟩:=rfl
 rw[e,getN_name h1,timeN_back h2,timeN_back h3,List.take_of_length_le (by rw[List.length_map];exact h4.1),sers_back _ h4.2.1,num_hb h5]
 rfl
def getT (n:Nd)(b:List Int):Option Cr:=if rightL (tellL n)=true∧okB (writeF (nodeL (tellL n)) 0) b=true then some (tellL n) else none
theorem getT_back {c:Cr}{b:List Int}(hr:rightL c=true)(hb:writeF (nodeL c) 0=.ok b):getT (nodeL c) b=some c:=by
 unfold getT
 rw[tellL_node hr,if_pos ⟨hr,okB_iff.2 hb⟩]
theorem getT_some {n:Nd}{b:List Int}{c:Cr}(h:getT n b=some c):rightL c=true∧writeF (nodeL c) 0=.ok b:=by
 unfold getT at h
 split at h
 ·rename_i hc
  cases h
  exact⟨hc.1,okB_iff.1 hc.2⟩
 ·cases h
def putL (c:Cr):WR:=if rightL c=true then writeF (nodeL c) 0 else .no 121
def bodyV (c:Cr):WR:=if rightL c=true then writeF (bodyL c) 0 else .no 121
theorem putL_ne {c:Cr}{e:Int}(h:putL c=.no e):e≠0:=by
 unfold putL at h
 split at h
 ·exact errW_ne _ _ _ _ (lr_ _) h
 ·cases h;decide
def aftL (c:Cr)(b:List Int)(r:WR):Option Cr:=match r with
 | .ok x=>if x=b then some c else none
 | .no _=>none
theorem getT_put {n:Nd}{b:List Int}:getT n b=aftL (tellL n) b (putL (tellL n)):=by
 unfold getT putL
 cases rightL (tellL n)
 ·rfl
 ·rw[if_pos (show true=true from rfl)]
  unfold aftL okB
  cases writeF (nodeL (tellL n)) 0 with
  |no e=>rfl
  |ok x=>
   simp only[decide_eq_true_eq,true_and]
def resL (xs:List Int):Int × Option Cr:=match readAllF xs with
 | .bad _ er=>(er,none)
 | .ok nd _=>match getT nd xs with
  |none=>(121,none)
  |some c=>(0,some c)
theorem resL_back {c:Cr}{b:List Int}(h:putL c=.ok b):resL b=(0,some c):=by
 unfold putL at h
 split at h
 ·rename_i hr
  unfold resL
  rw[read_all_back h]
  simp only[]
  rw[getT_back hr h]
 ·cases h
theorem resL_some {b:List Int}{er:Int}{c:Cr}(h:resL b=(er,some c)):er=0∧putL c=.ok b:=by
 unfold resL at h
 split at h
 ·cases h
 ·split at h
  ·cases h
  ·rename_i hg
   cases h
   obtain⟨h1,h2⟩:=getT_some hg
   exact⟨rfl,by unfold putL;rw[if_pos h1];exact h2⟩
def badS:List Int→Int→Bool
 | [],_=>false
 |x::l,v=>(decide (x≤v) || decide (4611686018427387904<x)) || badS l x
theorem badS_iff: ∀(l:List Int) (v:Int), -1≤v→(badS l v=false↔(l.all serB=true∧riseB l=true∧∀x,l.head?=some x→v<x))
 | [],v,_=>⟨fun _=>⟨rfl,rfl,fun x h=>by cases h⟩,fun _=>rfl⟩
 |x::l,v,hv=>by
  have e:badS (x::l) v=((decide (x≤v) || decide (4611686018427387904<x)) || badS l x):=rfl
  rw[e]
  simp only[Bool.or_eq_false_iff,decide_eq_false_iff_not,List.all_cons,Bool.and_eq_true,List.head?_cons,Option.some.injEq,forall_eq']
  have hs:= @serB_iff x
  constructor
  ·rintro⟨⟨h1,h2⟩,h3⟩
   obtain⟨k1,k2,k3⟩:=(badS_iff l x (by omega)).1 h3
   refine⟨⟨hs.2 ⟨by omega,by omega⟩,k1⟩,?_,by omega⟩
   cases l with
   |nil=>rfl
   |cons y l=>
    show(decide (x<y) && riseB (y::l))=true
    rw[k2,decide_eq_true (k3 y rfl)];rfl
  ·rintro⟨⟨h1,h2⟩,h3,h4⟩
   have h1:=hs.1 h1
   refine⟨⟨by omega,by omega⟩,(badS_iff l x (by omega)).2 ⟨h2,?_,?_⟩⟩
   ·cases l with
    |nil=>rfl
    |cons y l=>
     have h3:(decide (x<y) && riseB (y::l))=true:=h3
     rw[Bool.and_eq_true] at h3
     exact h3.2
   ·intro y hy
    cases l with
    |nil=>cases hy
    |cons z l=>
     cases hy
     have h3:(decide (x<y) && riseB (y::l))=true:=h3
     rw[Bool.and_eq_true] at h3
     exact of_decide_eq_true h3.1
theorem badS_sers (l:List Int):sersB l=(decide (l.length≤256) && !(badS l (-1))):=by
 unfold sersB
 congr 1
 have h:=badS_iff l (-1) (by omega)
 cases hb:badS l (-1) with
 |false=>
  obtain⟨h1,h2,_⟩:=h.1 hb
  rw[h1,h2];rfl
 |true=>
  show _=false
  rw[Bool.eq_false_iff]
  intro hc
  rw[Bool.and_eq_true] at hc
  have:=h.2 ⟨hc.1,hc.2,fun x hx=>by
   cases l with
   |nil=>cases hx
   |cons y l=>
    cases hx
    have h1:=hc.1
    rw[List.all_cons,Bool.and_eq_true] at h1
    have:=serB_iff.1 h1.1
    omega⟩
  rw[hb] at this
  cases this
end Go.Proofs.YtconbejjagcnkaaGreatDoor.nmc
