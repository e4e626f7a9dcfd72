/- Lists of what was taken back: plain. -/
import Derived.Test.YtconbejjagcnkaaGreatDoorAc
import Derived.Test.YtconbejjagcnkaaGreatDoorYh
import Derived.Test.YtconbejjagcnkaaGreatDoorQa
set_option maxRecDepth 100000
set_option maxHeartbeats 8000000
set_option linter.unusedVariables false
set_option linter.unusedSimpArgs false
namespace Go.Proofs.YtconbejjagcnkaaGreatDoor.nmc
open Go.RowKit tlvc tlvd ndc txc txm intc intm vtc
structure Cr where
 iss:List At
 ths:Int
 nxt:Int
 sers:List Int
 sig:Int
def riseB:List Int→Bool
 | []=>true
 | [_]=>true
 |a::b::l=>decide (a<b) && riseB (b::l)
def serB (v:Int):Bool:=decide (0≤v) && decide (v≤4611686018427387904)
def sersB (l:List Int):Bool:=decide (l.length≤256) && (l.all serB && riseB l)
def rightL (c:Cr):Bool:=rightN c.iss && (inRB c.ths && (inRB c.nxt && (sersB c.sers && hOK c.sig)))
def sersN (l:List Int):Nd:=.mk 48 [] (l.map numN)
def bodyL (c:Cr):Nd:=.mk 48 [] [nameN c.iss,timeNd c.ths,timeNd c.nxt,sersN c.sers]
def nodeL (c:Cr):Nd:=.mk 48 [] [bodyL c,hNd c.sig]
theorem serB_iff {v:Int}:serB v=true↔0≤v∧v≤4611686018427387904:=by unfold serB;simp
theorem rightL_parts {c:Cr}(h:rightL c=true):rightN c.iss=true∧InR c.ths∧InR c.nxt∧sersB c.sers=true∧(0≤c.sig∧c.sig<281474976710656):=by
 unfold rightL at h
 simp only[Bool.and_eq_true,inRB_iff,hOK_iff] at h
 obtain⟨h1,h2,h3,h4,h5⟩:=h
 exact⟨h1,h2,h3,h4,h5⟩
def serO:List Nd→Option (List Int)
 | []=>some []
 |n::l=>(intO n).bind fun v=>(serO l).bind fun r=>some (v::r)
def toldRK (k:List Nd)(z:Nd):Option Cr:=
 if k.length=4 then (getN (k.getD 0 zeroN)).bind fun i=>(timeO (k.getD 1 zeroN)).bind fun t=>(timeO (k.getD 2 zeroN)).bind fun u=>(serO (k.getD 3 zeroN).kids).bind fun s=>(numF z.body).bind fun g=>some ⟨i,t,u,s,g⟩
 else none
def toldR (n:Nd):Option Cr:=if n.kids.length=2 then toldRK (kidF n 0).kids (kidF n 1) else none
theorem serO_back: ∀(l:List Int),l.all serB=true→serO (l.map numN)=some l
 | [],_=>rfl
 |v::l,h=>by
  simp only[List.all_cons,Bool.and_eq_true] at h
  show((intO (numN v)).bind fun v=>(serO (l.map numN)).bind fun r=>some (v::r))=_
  rw[intO_back (serB_iff.1 h.1),serO_back l h.2]
  rfl
theorem serO_len: ∀(k:List Nd) (l:List Int),serO k=some l→l.length=k.length
 | [],l,h=>by cases h;rfl
 |n::k,l,h=>by
  unfold serO at h
  cases hi:intO n with
  |none=>rw[hi] at h;cases h
  |some v=>
   rw[hi] at h
   cases hr:serO k with
   |none=>rw[hr] at h;cases h
   |some r=>
    rw[hr] at h
    cases h
    rw[List.length_cons,List.length_cons,serO_len k r hr]
theorem toldR_node {c:Cr}(hr:rightL c=true):toldR (nodeL c)=some c:=by
 obtain⟨h1,h2,h3,h4,h5⟩:=rightL_parts hr
 have h6:c.sers.all serB=true:=by unfold sersB at h4;simp only[Bool.and_eq_true] at h4;exact h4.2.1
 show toldRK [nameN c.iss,timeNd c.ths,timeNd c.nxt,sersN c.sers] (hNd c.sig)=_
 unfold toldRK
 rw[if_pos (show([nameN c.iss,timeNd c.ths,timeNd c.nxt,sersN c.sers]:List Nd).length=4 from rfl)]
 show((getN (nameN c.iss)).bind fun i=>(timeO (timeNd c.ths)).bind fun t=>(timeO (timeNd c.nxt)).bind fun u=>(serO (c.sers.map numN)).bind fun s=>(numF (hbF c.sig)).bind fun g=>some (Cr.mk i t u s g))=some c
 rw[getN_name h1,timeO_back h2,timeO_back h3,serO_back _ h6,num_hb h5]
 rfl
theorem lists_time {s:Int}{o:Nat}(ho:o<32)(h:InR s):okW (timeNd s) o 19:=by
 have hm: ∀t,t=tagOf s→t=23∨t=24→mayF t (bodyOf s)=true:=fun t ht h2=>by
  have h1:=(okT_back h).1
  rw[←ht] at h1
  have he:timeE t (bodyOf s)=0:=by unfold timeE;rw[if_pos h1]
  rcases h2 with rfl |rfl
  ·show decide (timeE 23 (bodyOf s)=0)=true;rw[he];rfl
  ·show decide (timeE 24 (bodyOf s)=0)=true;rw[he];rfl
 have hl:(bodyOf s).length≤15:=by rw[bodyOf_len];split<;>omega
 have ht:tagOf s=23∨tagOf s=24:=by unfold tagOf;split<;>simp
 unfold timeNd
 obtain⟨t,htt⟩:=nm_ (tagOf s)
 rw[htt] at ht⊢
 have hm:=hm t htt.symm ht
 rcases ht with rfl |rfl
 ·exact(leaf_ok ho (by decide) (by decide) (by decide+kernel) (by omega) hm).mono (by omega)
 ·exact(leaf_ok ho (by decide) (by decide) (by decide+kernel) (by omega) hm).mono (by omega)
theorem lists_hNd {n:Int}{o:Nat}(ho:o<32)(h:0≤n∧n<281474976710656):okW (hNd n) o 12:=
 (leaf_ok ho (by decide) (by decide) (by decide+kernel) (by rw[hbF_len h];decide) rfl).mono (by rw[hbF_len h];decide)
theorem lists_num {v:Int}{o:Nat}(ho:o<32)(h:serB v=true):okW (numN v) o 12:=by
 have h:=serB_iff.1 h
 have h1:=putI_length v
 have h2:=width_bd v
 have hi:I64 v:=by unfold I64;omega
 exact(leaf_ok ho (by decide) (by decide) (by decide+kernel) (by omega) (by show decide ((intF (putI v)).2=0)=true;rw[intF_put' hi];rfl)).mono (by omega)
theorem lists_body {c:Cr}{o:Nat}(ho:o+3<32)(h:rightL c=true):okW (bodyL c) o 13332:=by
 obtain⟨h1,h2,h3,h4,h5⟩:=rightL_parts h
 unfold sersB at h4
 simp only[Bool.and_eq_true,decide_eq_true_eq] at h4
 obtain⟨h4,h6,h7⟩:=h4
 have hs:okW (sersN c.sers) (o+1) 3332:=by
  refine(seqW (L:=12) (by omega) (Or.inl rfl) (fun n hn=>?_) (by rw[List.length_map];omega)).mono (by rw[List.length_map];omega)
  obtain⟨v,hv,rfl⟩:=List.mem_map.1 hn
  exact lists_num (by omega) (List.all_eq_true.1 h6 v hv)
 refine(seqW (L:=3332) (by omega) (Or.inl rfl) (fun n hn=>?_) (by simp)).mono (by simp)
 simp only[List.mem_cons,List.not_mem_nil,or_false] at hn
 rcases hn with rfl |rfl |rfl |rfl
 ·exact(name_ok (by omega) h1).mono (by omega)
 ·exact(lists_time (by omega) h2).mono (by omega)
 ·exact(lists_time (by omega) h3).mono (by omega)
 ·exact hs
theorem lists_node {c:Cr}(h:rightL c=true): ∃b,writeF (nodeL c) 0=.ok b∧b.length≤26668:=by
 obtain⟨h1,h2,h3,h4,h5⟩:=rightL_parts h
 exact(seqW (o:=0) (L:=13332) (by omega) (Or.inl rfl) (fun n hn=>by
  simp only[List.mem_cons,List.not_mem_nil,or_false] at hn
  rcases hn with rfl |rfl
  ·exact lists_body (by omega) h
  ·exact(lists_hNd (by omega) h5).mono (by omega)) (by simp)).mono (by simp)
end Go.Proofs.YtconbejjagcnkaaGreatDoor.nmc
