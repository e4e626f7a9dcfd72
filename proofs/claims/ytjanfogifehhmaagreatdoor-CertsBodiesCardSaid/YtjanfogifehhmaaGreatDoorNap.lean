/- The document's Parts and Same. -/
import Derived.Test.YtjanfogifehhmaaGreatDoorKa
import Derived.Test.YtjanfogifehhmaaGreatDoorProg
import Derived.Test.YtjanfogifehhmaaGreatDoorIa
import Derived.RegionTactic
import Derived.Deep.QuietTactic
import Derived.Deep.LoopGhost
import Derived.StillTailTactics
import Derived.Deep.Heap
set_option maxRecDepth 100000
set_option maxHeartbeats 8000000
set_option linter.unusedVariables false
set_option linter.unusedSimpArgs false
namespace Go.Proofs.YtjanfogifehhmaaGreatDoor.ndc
open Go.RowKit tlvc intc
theorem same_of {C1 C2:Nat→Prop}: ∀(N:Nat) (n m:Nd),szN n≤N→∀(v u:Value) (w:World),NdV C1 w n v→NdV C2 w m u→
 Calls Tryz.prog 130 #[v,u] w fun e w'=>e=.returned (.bool (sameN n m))∧Below w.heap.size w w'
 |0,.mk t b ks,m,h,_,_,_,_,_=>by unfold szN at h;omega
 |N+1,.mk t b ks,.mk t2 b2 ms,h,v,u,w,hv,hu=>by
  obtain⟨c0,c1,c2,rfl,hc⟩:=hv
  obtain⟨d0,d1,d2,rfl,hd⟩:=hu
  unfold NdC at hc hd
  obtain⟨rfl,ht,⟨A,la,ca,rfl,hA1,hA2,hA3,_⟩,K,ck,rfl,hK1,hK2,hK3⟩:=hc
  obtain⟨rfl,ht2,⟨B,lb,cb,rfl,hB1,hB2,hB3,_⟩,M,cm,rfl,hM1,hM2,hM3⟩:=hd
  unfold szN at h
  have ih: ∀k∈ks,∀(m:Nd) (v u:Value) (w:World),NdV C1 w k v→NdV C2 w m u→Calls Tryz.prog 130 #[v,u] w fun e w'=>e=.returned (.bool (sameN k m))∧Below w.heap.size w w':=fun k hk m=>same_of N k m (by have:=szL_mem hk;omega)
  have hsn:sameN (.mk t b ks) (.mk t2 b2 ms)=(decide (t=t2) && decide (b=b2) && decide (ks.length=ms.length) && sameL ks ms):=by unfold sameN;rfl
  rw[hsn]
  have hK9:ck≤9223372036854775807:=by unfold maxLen at hK2;omega
  have hM9:cm≤9223372036854775807:=by unfold maxLen at hM2;omega
  have IH:=hd_ ih
  have HK3:=hd_ hK3
  have HM3:=hd_ hM3
  obtain⟨len,hlen⟩:=nm_ (ks.length)
  obtain⟨len2,hlen2⟩:=nm_ (ms.length)
  rw[hlen] at hK1⊢
  rw[hlen2] at hM1⊢
  clear ih hK3 hM3 same_of hsn
  have hcA:=fun(W:World) (hb:Below w.heap.size w W)=>str_now (hA3.below hb) ca
  have hcB:=fun(W:World) (hb:Below w.heap.size w W)=>str_now (hB3.below hb) cb
  have hbx:Below w.heap.size w ((w.alloc (.cells #[.int .u8 t,.slice A la ca,.slice K len ck] 49)).alloc (.cells #[.int .u8 t2,.slice B lb cb,.slice M len2 cm] 49)):=((br_ _ _).alloc (lr_ _) _).alloc (by simp) _
  have sA:=hcA _ hbx
  have sB:=hcB _ hbx
  clear hcA hcB
  have hfA:Fit b:=hA3.2.1
  have hfB:Fit b2:=hB3.2.1
  by_cases e1:t=t2
  ·subst e1
   rw[decide_eq_true rfl,Bool.true_and]
   by_cases e2:b=b2
   ·subst e2
    rw[decide_eq_true rfl,Bool.true_and]
    obtain⟨S,hS⟩:=nm_ (strOfNums b)
    rw[hS] at sA sB
    clear hS hfA hfB hA3 hB3
    by_cases e3:len=len2
    ·subst e3
     rw[decide_eq_true rfl,Bool.true_and]
     obtain⟨ANS,hANS⟩:=nm_ (sameL ks ms)
     rw[hANS]
     have HN:=hd_ hANS
     clear hANS
     go_enter Tryz.func130,Tryz.ntmps130
     go_wp2_with fail
     obtain⟨W0,hW0⟩:=nm_ ((w.alloc (.cells #[.int .u8 t,.slice A la ca,.slice K len ck] 49)).alloc (.cells #[.int .u8 t,.slice B lb cb,.slice M len cm] 49))
     have k1:W0.cell? ⟨w.heap.size,2,none⟩=some (.slice K len ck):=by rw[←hW0,World.cell?_alloc_lt _ _ _ (by simp),World.cell?_alloc_mark];rfl
     have k2:W0.cell? ⟨w.heap.size+1,2,none⟩=some (.slice M len cm):=by
      rw[←hW0]
      have:=World.cell?_alloc_mark (w.alloc (.cells #[.int .u8 t,.slice A la ca,.slice K len ck] 49)) #[.int .u8 t,.slice B lb cb,.slice M len cm] 49 (0,0) 2
      rw[show(w.alloc (.cells #[.int .u8 t,.slice A la ca,.slice K len ck] 49)).heap.size=w.heap.size+1 by simp] at this
      rw[this];rfl
     have hz:W0.heap.size=w.heap.size+2:=by rw[←hW0];simp
     rw[hW0] at hbx⊢
     clear sA sB hW0
     go_loopg [5] (len+1) (fun gk s5 wx=>∃(i:Nat),s5=.int .i64 i∧i≤len∧len - i<gk∧Hid (sameL (ks.drop i) (ms.drop i)=ANS)∧Below W0.heap.size W0 wx)
     case atStart=>exact⟨0,rfl,by omega,by omega,HN,br_ _ _⟩
     case round=>
      obtain⟨i,rfl,hi,hgk,hq,hbel⟩:=hrel
      have f1:wr.cell? ⟨w.heap.size,2,none⟩=some (.slice K len ck):=by rw[hbel.cell (p:=⟨w.heap.size,2,none⟩) (by show w.heap.size<_;omega)];exact k1
      have f2:wr.cell? ⟨w.heap.size+1,2,none⟩=some (.slice M len cm):=by rw[hbel.cell (p:=⟨w.heap.size+1,2,none⟩) (by show w.heap.size+1<_;omega)];exact k2
      have hbw:Below w.heap.size w wr:=hbx.trans (hbel.mono (by omega))
      by_cases hlt:i<len
      ·have hltz:(i:Int)< (len:Int):=by omega
       obtain⟨gk',rfl⟩: ∃g',gk=g'+1:=⟨gk - 1,by omega⟩
       obtain⟨g,off,rfl,hg,hBg,hks⟩:=HK3.out (by omega)
       obtain⟨g2,off2,rfl,hg2,hBg2,hms⟩:=HM3.out (by omega)
       obtain⟨c0,c1,c2,p0,p1,p2,hc⟩:=(KidsC.below hbw hg hBg ks off hks).at i (by omega)
       obtain⟨d0,d1,d2,q0,q1,q2,hd⟩:=(KidsC.below hbw hg2 hBg2 ms off2 hms).at i (by omega)
       have hst:=sameL_drop (ks:=ks) (ms:=ms) i (by omega) (by omega)
       have ih:=IH.out _ (List.getElem_mem (show i<ks.length by omega)) (ms[i]'(by omega)) (.agg #[c0,c1,c2]) (.agg #[d0,d1,d2]) wr.drew ⟨c0,c1,c2,rfl,NdC.below (br_ _ _).drew _ _ _ _ hc⟩ ⟨d0,d1,d2,rfl,NdC.below (br_ _ _).drew _ _ _ _ hd⟩
       obtain⟨r,hr⟩:=nm_ (sameN (ks[i]'(by omega)) (ms[i]'(by omega)))
       rw[hr] at hst ih
       have hq2:=hq.out
       rw[hst] at hq2
       have IH2:=hd_ ih
       have Q2:=hd_ hq2
       have x1:({heap:=wr.heap,tape:=wr.tape,drawn:=wr.drawn+1,os:=wr.os,output:=wr.output}:World).cell? ⟨w.heap.size,2,none⟩=some (.slice (some ⟨g,off,none⟩) len ck):=f1
       have x2:({heap:=wr.heap,tape:=wr.tape,drawn:=wr.drawn+1,os:=wr.os,output:=wr.output}:World).cell? ⟨w.heap.size+1,2,none⟩=some (.slice (some ⟨g2,off2,none⟩) len cm):=f2
       have y0:({heap:=wr.heap,tape:=wr.tape,drawn:=wr.drawn+1,os:=wr.os,output:=wr.output}:World).cell? ⟨g,off+i*3,none⟩=some c0:=p0
       have y1:({heap:=wr.heap,tape:=wr.tape,drawn:=wr.drawn+1,os:=wr.os,output:=wr.output}:World).cell? ⟨g,off+i*3+1,none⟩=some c1:=p1
       have y2:({heap:=wr.heap,tape:=wr.tape,drawn:=wr.drawn+1,os:=wr.os,output:=wr.output}:World).cell? ⟨g,off+i*3+2,none⟩=some c2:=p2
       have z0:({heap:=wr.heap,tape:=wr.tape,drawn:=wr.drawn+1,os:=wr.os,output:=wr.output}:World).cell? ⟨g2,off2+i*3,none⟩=some d0:=q0
       have z1:({heap:=wr.heap,tape:=wr.tape,drawn:=wr.drawn+1,os:=wr.os,output:=wr.output}:World).cell? ⟨g2,off2+i*3+1,none⟩=some d1:=q1
       have z2:({heap:=wr.heap,tape:=wr.tape,drawn:=wr.drawn+1,os:=wr.os,output:=wr.output}:World).cell? ⟨g2,off2+i*3+2,none⟩=some d2:=q2
       clear ih hq2 hst hr hc hd hks hms hq
       go_wp2_with fail
       go_still_tail 10,(by kernel_rfl)
       change wpList _ _ _ _ _ wr.drew
       have hbel1:=hbel.drew
       obtain⟨w2,hw2⟩:=nm_ (wr.drew)
       rw[hw2] at IH2 hbel1⊢
       clear hw2 x1 x2 y0 y1 y2 z0 z1 z2 f1 f2 p0 p1 p2 q0 q1 q2
       go_wp2_with fail
       refine IH2.out.mono ?_
       rintro e w3 ⟨rfl,hb3⟩
       have hbel3:=hbel1.trans (hb3.mono hbel1.size)
       clear IH2 hb3 hbel1 hbel hbw
       cases r with
       |false=>
        have hN:ANS=false:=Q2.out.symm.trans (Bool.false_and _)
        subst hN
        clear Q2 HN
        go_wp2
        go_ret
        exact⟨rfl,hbx.trans (hbel3.mono (by omega))⟩
       |true=>
        have Q3:Hid (sameL (ks.drop (i+1)) (ms.drop (i+1))=ANS):=by have:=Q2.out;rw[Bool.true_and] at this;exact this
        clear Q2
        go_wp2
        go_roundg gk'
        case measure=>omega
        case rel=>exact⟨i+1,by go_num,by omega,by omega,Q3,hbel3⟩
      ·have hltz: ¬(i:Int)< (len:Int):=by omega
       have hN:ANS=true:=by
        rw[←hq.out,List.drop_eq_nil_of_le (by omega)];unfold sameL;rfl
       subst hN
       clear hq HN IH HK3 HM3
       go_wp2
       go_ret
       exact⟨rfl,hbw⟩
    ·have e3b:((len:Int)==(len2:Int))=false:=by simp;omega
     have e3z: ¬(len:Int)=(len2:Int):=by omega
     rw[decide_eq_false e3,Bool.false_and]
     go_enter Tryz.func130,Tryz.ntmps130
     go_wp2
     go_ret
     exact⟨rfl,hbx⟩
   ·have hno:=sameB_no hfA hfB e2
    unfold sameB at hno
    rw[decide_eq_false e2,Bool.false_and,Bool.false_and]
    obtain⟨S,hS⟩:=nm_ (strOfNums b)
    obtain⟨S2,hS2⟩:=nm_ (strOfNums b2)
    rw[hS] at sA hno
    rw[hS2] at sB hno
    have hno2: ¬S.toList=S2.toList:=by simpa using hno
    clear hS hS2
    go_enter Tryz.func130,Tryz.ntmps130
    go_wp2
    go_ret
    exact⟨rfl,hbx⟩
  ·have e1b:(t==t2)=false:=by simpa using e1
   rw[decide_eq_false e1,Bool.false_and,Bool.false_and,Bool.false_and]
   go_enter Tryz.func130,Tryz.ntmps130
   go_wp2
   go_ret
   exact⟨rfl,hbx⟩
end Go.Proofs.YtjanfogifehhmaaGreatDoor.ndc
