/- The document's Kids, plain and OidOf. The document's reading -/
import Derived.Test.YtjanfogifehhmaaGreatDoorYb
import Derived.Test.YtjanfogifehhmaaGreatDoorIc
import Derived.Lib.QuietBelow
import Derived.BigQuiet
import Derived.Test.YtjanfogifehhmaaGreatDoorYc
import Derived.Test.YtjanfogifehhmaaGreatDoorYg
set_option maxRecDepth 100000
set_option maxHeartbeats 4000000
set_option linter.unusedVariables false
set_option linter.unusedSimpArgs false
namespace Go.Proofs.YtjanfogifehhmaaGreatDoor.nmc
open Go.RowKit tlvc tlvd ndc txc txm intc intm
def kidsB (n:Nd)(many:Int):Bool:=decide (n.tag=48) && (decide (n.body.length=0) && (decide (many<0) || decide ((n.kids.length:Int)=many)))
theorem box3_ {W0 W:World}(h:Below W0.heap.size W0 W){g:Nat}{a b c:Value}{T:TypeId}{fr:Nat × Nat}(hq:W0.heap[g]? =some (.cells #[a,b,c] T fr)):W.cell? ⟨g,0,none⟩=some a∧W.cell? ⟨g,1,none⟩=some b∧W.cell? ⟨g,2,none⟩=some c:=by
 have hq:=(h.block g (Array.getElem?_eq_some_iff.1 hq).1).trans hq
 exact⟨(ch_ hq _).trans rfl,(ch_ hq _).trans rfl,(ch_ hq _).trans rfl⟩
theorem kids_any (B:Nat→Prop)(n:Nd)(many:Int)(h:many= -1∨many=2)(c0 c1 c2:Value)(w:World)(hn:NdC B w n c0 c1 c2):
 Calls Tryz.prog 122 #[.agg #[c0,c1,c2],.int .u8 48,.int .i64 many] w fun e w'=>e=.returned (.tuple #[if kidsB n many=true then c2 else .slice none 0 0,.bool (kidsB n many)])∧Below w.heap.size w w':=by
 obtain⟨t,b,ks⟩:=n
 obtain⟨rfl,ht,⟨A,la,ca,rfl,hA1,hA2,hA3,_⟩,K,ck,rfl,hK1,hK2,hK3⟩:=NdC.kidsL hn
 have hla:b.length=la:=hA3.1
 obtain⟨lk,hlk⟩:=nm_ (ks.length)
 have hk:kidsB (.mk t b ks) many=(decide (t=48) && (decide (la=0) && (decide (many<0) || decide ((lk:Int)=many)))):=by rw[←hla,←hlk];rfl
 rw[hk]
 (try rw[hlk])
 obtain⟨W0,hW0⟩:=nm_ (w.alloc (.cells #[.int .u8 t,.slice A la ca,.slice K lk ck] 49))
 have hb0:Below w.heap.size w W0:=by rw[←hW0];exact below_new _ _
 have q0:W0.heap[w.heap.size]? =some (.cells #[.int .u8 t,.slice A la ca,.slice K lk ck] 49):=by rw[←hW0];exact heap_new_ _ _
 obtain⟨x0,x1,x2⟩:=box3_ (br_ _ W0) q0
 have HB:=hd_ hb0
 clear hb0 q0 hk hlk hla hA1 hA2 hA3 hK1 hK2 hK3 ht hn
 by_cases h48:t=48
 ·subst h48
  by_cases h0:la=0
  ·subst h0
   rcases h with rfl |rfl
   ·skip
    go_enter Tryz.func122,Tryz.ntmps122
    go_wp2
    go_ret2
    exact⟨by first |rfl |simp[*],HB.out⟩
   ·by_cases h2:lk=2
    ·subst h2
     go_enter Tryz.func122,Tryz.ntmps122
     go_wp2
     go_ret2
     exact⟨by first |rfl |simp[*],HB.out⟩
    ·have h2z:((lk:Int)==2)=false:=by rw[beq_eq_false_iff_ne];omega
     have h2y: ¬((lk:Int)=2):=by omega
     rw[decide_eq_false h2y]
     clear h2y h2
     go_enter Tryz.func122,Tryz.ntmps122
     go_wp2
     go_ret2
     exact⟨by first |rfl |simp[*],HB.out⟩
  ·have h0z:(0:Int)< (la:Int):=by omega
   rw[decide_eq_false h0]
   go_enter Tryz.func122,Tryz.ntmps122
   go_wp2
   go_ret2
   exact⟨by first |rfl |simp[*],HB.out⟩
 ·have h48z:(t==48)=false:=by rw[beq_eq_false_iff_ne];exact h48
  rw[decide_eq_false h48]
  go_enter Tryz.func122,Tryz.ntmps122
  go_wp2
  go_ret2
  exact⟨by first |rfl |simp[*],HB.out⟩
end Go.Proofs.YtjanfogifehhmaaGreatDoor.nmc
namespace Go.Proofs.YtjanfogifehhmaaGreatDoor.nmc
open Go.RowKit tlvc tlvd ndc txc txm intc intm
end Go.Proofs.YtjanfogifehhmaaGreatDoor.nmc
namespace Go.Proofs.YtjanfogifehhmaaGreatDoor.nmc
open Go.RowKit tlvc tlvd ndc txc txm intc intm
end Go.Proofs.YtjanfogifehhmaaGreatDoor.nmc
