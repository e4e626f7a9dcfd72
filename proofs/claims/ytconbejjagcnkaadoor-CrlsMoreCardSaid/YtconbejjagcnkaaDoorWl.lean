/- A list with one serial more: plain. -/
import Derived.Test.YtconbejjagcnkaaDoorWk
set_option maxRecDepth 100000
set_option maxHeartbeats 16000000
set_option linter.unusedVariables false
set_option linter.unusedSimpArgs false
namespace Go.Proofs.YtconbejjagcnkaaDoor.nmc
open Go.RowKit tlvc tlvd ndc txc txm intc intm vtc
def lastI (l:List Int):Int:=l.getLast?.getD (-1)
theorem lastI_pos {l:List Int}(h:0<l.length):l.getD (l.length - 1) 0=lastI l:=by
 unfold lastI
 rw[List.getLast?_eq_getElem?,List.getD_eq_getElem?_getD,List.getElem?_eq_getElem (by omega)]
 rfl
theorem lastI_bd {l:List Int}(h:l.all serB=true): -1≤lastI l∧lastI l≤4611686018427387904:=by
 unfold lastI
 cases hl:l.getLast? with
 |none=>exact⟨by show(-1:Int)≤ -1;omega,by show(-1:Int)≤_;omega⟩
 |some x=>
  have hm:=List.mem_of_getLast? hl
  have:=serB_iff.1 (List.all_eq_true.1 h x hm)
  exact⟨by show(-1:Int)≤x;omega,this.2⟩
theorem putL_right {c:Cr}{b:List Int}(h:putL c=.ok b):rightL c=true:=by
 unfold putL at h
 split at h
 ·rename_i hr;exact hr
 ·cases h
theorem more_ok {c:Cr}{v:Int}(hr:rightL c=true)(hl:c.sers.length<256)(hv:lastI c.sers<v)(hm:v≤4611686018427387904):
 (∃b,putL ⟨c.iss,c.ths,c.nxt,c.sers++[v],c.sig⟩=.ok b)∧putL ⟨c.iss,c.ths,c.nxt,c.sers++[v]++[v],c.sig⟩=.no 121:=by
 have hh:=hr
 unfold rightL at hh
 simp only[Bool.and_eq_true] at hh
 obtain⟨h1,h2,h3,h4,h5⟩:=hh
 have hs:=h4
 unfold sersB at hs
 simp only[Bool.and_eq_true] at hs
 have hb:=lastI_bd hs.2.1
 have h6:sersB (c.sers++[v])=true:=sers_more h4 hl (serB_iff.2 ⟨by omega,hm⟩) (fun x hx=>by
  have:lastI c.sers=x:=by unfold lastI;rw[hx];rfl
  omega)
 have hr2:rightL ⟨c.iss,c.ths,c.nxt,c.sers++[v],c.sig⟩=true:=by
  unfold rightL
  simp only[Bool.and_eq_true]
  exact⟨h1,h2,h3,h6,h5⟩
 refine⟨?_,?_⟩
 ·obtain⟨b,hb,_⟩:=lists_node hr2
  exact⟨b,by unfold putL;rw[if_pos hr2];exact hb⟩
 ·unfold putL
  rw[if_neg]
  unfold rightL
  show¬(rightN c.iss && (inRB c.ths && (inRB c.nxt && (sersB (c.sers++[v]++[v]) && hOK c.sig))))=true
  rw[sers_twice]
  simp
end Go.Proofs.YtconbejjagcnkaaDoor.nmc
