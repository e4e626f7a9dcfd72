/- What the laws of names share. The program's alike, and kidAt -/
import Derived.Test.YtkjkhoglkpepiaaGreatDoorYf
import Derived.Test.YtkjkhoglkpepiaaGreatDoorIa
import Derived.RegionTactic
import Derived.Deep.QuietTactic
import Derived.Deep.LoopGhost
import Derived.StillTailTactics
import Derived.Deep.Heap
import Derived.Test.YtkjkhoglkpepiaaGreatDoorYc
import Derived.Deep.RegionHeld3
set_option maxRecDepth 100000
set_option maxHeartbeats 8000000
set_option linter.unusedVariables false
set_option linter.unusedSimpArgs false
namespace Go.Proofs.YtkjkhoglkpepiaaGreatDoor.nmc
open Go.RowKit tlvc tlvd ndc txc txm intc intm
def zn:Nd:=.mk 0 [] []
def codeN (r:Option Nd):Int:=if r.isSome=true then 0 else 91
theorem NPost0.any {S:Nat→Prop}{w:World}{r:Option Nd}{e:Ending}{w':World}(h:NPost0 S w r e w'):Below w.heap.size w w'∧∃t A la ca K lk ck er,e=.returned (.tuple #[.agg #[.int .u8 t,.slice A la ca,.slice K lk ck],.int .i64 er])∧er=codeN r∧NdC (fun _=>True) w' (r.getD zn) (.int .u8 t) (.slice A la ca) (.slice K lk ck):=by
 obtain⟨hb,h⟩:=h
 refine⟨hb,?_⟩
 cases r with
 |none=>exact⟨_,_,_,_,_,_,_,_,h,rfl,ndC_leaf (by omega) (lr_ _) (Nat.zero_le _) (Bys.nil_ _ _) (fun h=>absurd h (by omega))⟩
 |some n=>
  obtain⟨t,A,la,ca,K,lk,ck,e,hn⟩:=h
  exact⟨t,A,la,ca,K,lk,ck,_,e,rfl,NdC.mono (fun _ _=>trivial) _ _ _ _ hn⟩
theorem box_nd {W0 W:World}(h:Below W0.heap.size W0 W){g:Nat}{a b c:Value}{T:TypeId}{fr:Nat × Nat}(hq:W0.heap[g]? =some (.cells #[a,b,c] T fr)):W.cell? ⟨g,0,none⟩=some a∧W.cell? ⟨g,1,none⟩=some b∧W.cell? ⟨g,2,none⟩=some c:=by
 have hq:=(h.block g (Array.getElem?_eq_some_iff.1 hq).1).trans hq
 exact⟨(ch_ hq _).trans rfl,(ch_ hq _).trans rfl,(ch_ hq _).trans rfl⟩
end Go.Proofs.YtkjkhoglkpepiaaGreatDoor.nmc
namespace Go.Proofs.YtkjkhoglkpepiaaGreatDoor.nmc
open Go.RowKit tlvc tlvd ndc txc txm intc intm
theorem sameL_step {ks ms:List Nd}{i:Nat}{R:Bool}(h1:i<ks.length)(hl:ks.length=ms.length)(h:sameL (ks.drop i) (ms.drop i)=R):(sameN ks[i] (ms[i]'(by omega))=false→R=false)∧(sameN ks[i] (ms[i]'(by omega))=true→sameL (ks.drop (i+1)) (ms.drop (i+1))=R):=by
 rw[sameL_drop i h1 hl] at h
 constructor
 ·intro e;rw[←h,e];rfl
 ·intro e;rw[←h,e];rfl
theorem sameL_end {ks ms:List Nd}{i:Nat}{R:Bool}(h1: ¬i<ks.length)(h:sameL (ks.drop i) (ms.drop i)=R):R=true:=by
 rw[←h,List.drop_eq_nil_of_le (by omega)]
 unfold sameL
 rfl
theorem nd_cells {B:Nat→Prop}{w wr:World}{A:Option Addr}{xs:List Nd}(hL:Lst ndE B w A xs)(hb:Below w.heap.size w wr)(i:Nat)(hi:i<xs.length): ∃g off t A1 l1 k1 K1 m1 n1,A=some ⟨g,off,none⟩∧wr.cell? ⟨g,off+i*3,none⟩=some (.int .u8 t)∧wr.cell? ⟨g,off+i*3+1,none⟩=some (.slice A1 l1 k1)∧wr.cell? ⟨g,off+i*3+2,none⟩=some (.slice K1 m1 n1)∧NdC B wr xs[i] (.int .u8 t) (.slice A1 l1 k1) (.slice K1 m1 n1):=by
 obtain⟨g,off,cs,rfl,hg,hcell,hold⟩:=(hL.below hb).at i hi
 obtain⟨c0,c1,c2,rfl,hn⟩:=hold
 obtain⟨t,A1,l1,k1,K1,m1,n1,rfl,rfl,rfl⟩:=hn.shape
 have e0:=hcell 0 _ rfl
 have e1:=hcell 1 _ rfl
 have e2:=hcell 2 _ rfl
 rw[show ndE.sz=3 from rfl] at e0 e1 e2
 rw[Nat.add_zero] at e0
 exact⟨g,off,t,A1,l1,k1,K1,m1,n1,rfl,e0,e1,e2,hn⟩
theorem eqFuncN_any (B C:Nat→Prop)(A A':Option Addr)(n c m d:Nat)(xs ys:List Nd)(w:World)(hl:xs.length=n)(hl2:ys.length=m)(hL:Lst ndE B w A xs)(hL2:Lst ndE C w A' ys)(hc:n≤c)(hm:c≤maxLen)(hc2:m≤d)(hm2:d≤maxLen)
 (ih: ∀k∈xs,∀(m:Nd) (v u:Value) (w:World),NdV B w k v→NdV C w m u→Calls Tryz.prog 166 #[v,u] w fun e w'=>e=.returned (.bool (sameN k m))∧Below w.heap.size w w'):
 Calls Tryz.prog 202 #[.slice A n c,.slice A' m d,.func (.func 166) #[] #[]] w fun e w'=>e=.returned (.bool (decide (n=m) && sameL xs ys))∧Below w.heap.size w w':=by
 have h9:c≤9223372036854775807:=by unfold maxLen at hm;omega
 have h92:d≤9223372036854775807:=by unfold maxLen at hm2;omega
 by_cases hnm:n=m
 ·subst hnm
  rw[decide_eq_true rfl,Bool.true_and]
  obtain⟨R,hR⟩:=nm_ (sameL xs ys)
  rw[hR]
  have hent:=enters_of Tryz.func166 (by kernel_rfl) rfl
  have HR:=hd_ (show sameL (xs.drop 0) (ys.drop 0)=R by rw[List.drop_zero,List.drop_zero];exact hR)
  have HL:=hd_ (ai_ hl (ai_ hl2 (ai_ hL hL2)))
  have HIH:=hd_ ih
  clear hl hl2 hL hL2 hR hm hm2 ih
  go_enter Tryz.func202,Tryz.ntmps202
  go_wp2_with fail
  go_loopg [17] (n+1) (fun gk s17 wx=>∃(i:Nat),s17=.int .i64 i∧i≤n∧n - i<gk∧Hid (sameL (xs.drop i) (ys.drop i)=R∧Below w.heap.size w wx))
  case atStart=>exact⟨0,rfl,by omega,by omega,hd_ ⟨HR.out,br_ _ _⟩⟩
  case round=>
   obtain⟨i,rfl,hi,hgk,HI⟩:=hrel
   clear HR
   by_cases hlt:i<n
   ·have hltz:(i:Int)< (n:Int):=by omega
    obtain⟨gk',rfl⟩: ∃g',gk=g'+1:=⟨gk - 1,by omega⟩
    have HN:=hd_ (ai_ (show i+1≤n from hlt) (show n - (i+1)<gk' by omega))
    have hix:i<xs.length:=by rw[HL.out.1];exact hlt
    have hiy:i<ys.length:=by rw[HL.out.2.1];exact hlt
    obtain⟨g,off,t1,A1,l1,k1,K1,m1,n1,rfl,e0,e1,e2,hn1⟩:=nd_cells HL.out.2.2.1 HI.out.2 i hix
    obtain⟨g',off',t2,A2,l2,k2,K2,m2,n2,rfl,e0',e1',e2',hn2⟩:=nd_cells HL.out.2.2.2 HI.out.2 i hiy
    have hbx:Below wr.heap.size wr ((wr.alloc (.cells #[.int .u8 t1,.slice A1 l1 k1,.slice K1 m1 n1] 43)).alloc (.cells #[.int .u8 t2,.slice A2 l2 k2,.slice K2 m2 n2] 43)):=(below_new _ _).alloc (by simp) _
    have hcall:=HIH.out xs[i] (List.getElem_mem hix) ys[i] _ _ _ ⟨_,_,_,rfl,NdC.below hbx _ _ _ _ hn1⟩ ⟨_,_,_,rfl,NdC.below hbx _ _ _ _ hn2⟩
    have hbx1:=below_new wr (.cells #[.int .u8 t1,.slice A1 l1 k1,.slice K1 m1 n1] 43)
    have u0:=cell_on hbx1 e0'
    have u1:=cell_on hbx1 e1'
    have u2:=cell_on hbx1 e2'
    have hst:=sameL_step hix (HL.out.1.trans HL.out.2.1.symm) HI.out.1
    obtain⟨r,hr⟩:=nm_ (sameN xs[i] ys[i])
    rw[hr] at hcall hst
    have HC:=hd_ hcall
    have HS:=hd_ hst
    have HB:=hd_ (below_then HI.out.2 hbx (lr_ _))
    clear hcall hst hr hbx hbx1 hn1 hn2 hgk
    go_wp2_with fail
    refine HC.out.mono ?_
    rintro e w3 ⟨rfl,hb3⟩
    have hfin:=hd_ (below_then HB.out hb3 (lr_ _))
    clear hb3 HC HB e0 e1 e2 e0' e1' e2' u0 u1 u2
    cases r with
    |false=>
     have hR:=HS.out.1 (by first |rfl |trivial)
     subst hR
     go_wp2
     go_ret
     exact⟨rfl,hfin.out⟩
    |true=>
     have HS2:=hd_ (HS.out.2 (by first |rfl |trivial))
     go_wp2
     go_roundg gk'
     case measure=>omega
     case rel=>exact⟨i+1,by go_num,HN.out.1,HN.out.2,hd_ ⟨HS2.out,hfin.out⟩⟩
   ·obtain rfl:n=i:=by omega
    have hltz: ¬(n:Int)< (n:Int):=by omega
    have hR:=sameL_end (by rw[HL.out.1];omega) HI.out.1
    subst hR
    clear hgk
    go_wp2
    go_ret
    exact⟨rfl,HI.out.2⟩
 ·rw[decide_eq_false hnm,Bool.false_and]
  have hne:((n:Int) !=m)=true:=by simp only[bne_iff_ne,ne_eq];omega
  have hne2:(n !=m)=true:=by simpa using hnm
  clear hL hL2 hl hl2 hnm ih
  go_enter Tryz.func202,Tryz.ntmps202
  go_wp2
  go_ret
  exact⟨rfl,br_ _ _⟩
theorem alike_of {B C:Nat→Prop}: ∀(N:Nat) (n m:Nd),szN n≤N→∀(v u:Value) (w:World),NdV B w n v→NdV C w m u→
 Calls Tryz.prog 166 #[v,u] w fun e w'=>e=.returned (.bool (sameN n m))∧Below w.heap.size w w'
 |0,.mk t b ks,m,h,_,_,_,_,_=>by unfold szN at h;omega
 |N+1,.mk t b ks,.mk t2 b2 ms,h,v,u,w,hv,hu=>by
  obtain⟨c0,c1,c2,rfl,hc⟩:=hv
  obtain⟨d0,d1,d2,rfl,hd⟩:=hu
  obtain⟨rfl,ht,⟨A,la,ca,rfl,hA1,hA2,hA3,_⟩,K,ck,rfl,hK1,hK2,hK3⟩:=NdC.kidsL hc
  obtain⟨rfl,ht2,⟨A',lb,cb,rfl,hB1,hB2,hB3,_⟩,M,cm,rfl,hM1,hM2,hM3⟩:=NdC.kidsL hd
  unfold szN at h
  have ih: ∀k∈ks,∀(m:Nd) (v u:Value) (w:World),NdV B w k v→NdV C w m u→Calls Tryz.prog 166 #[v,u] w fun e w'=>e=.returned (.bool (sameN k m))∧Below w.heap.size w w':=fun k hk m=>alike_of N k m (by have:=szL_mem hk;omega)
  have hsn:sameN (.mk t b ks) (.mk t2 b2 ms)=(decide (t=t2) && decide (b=b2) && (decide (ks.length=ms.length) && sameL ks ms)):=by unfold sameN;rw[Bool.and_assoc];rfl
  rw[hsn]
  obtain⟨n,hn⟩:=nm_ (ks.length)
  obtain⟨m,hm⟩:=nm_ (ms.length)
  rw[hn] at hK1⊢
  rw[hm] at hM1⊢
  obtain⟨W0,hW0⟩:=nm_ ((w.alloc (.cells #[.int .u8 t,.slice A la ca,.slice K n ck] 43)).alloc (.cells #[.int .u8 t2,.slice A' lb cb,.slice M m cm] 43))
  have hb0:Below w.heap.size w W0:=by rw[←hW0];exact(below_new _ _).alloc (by simp) _
  have hz0:W0.heap.size=w.heap.size+2:=by rw[←hW0];simp
  have p0:W0.heap[w.heap.size+1]? =some (.cells #[.int .u8 t2,.slice A' lb cb,.slice M m cm] 43):=by rw[←hW0];exact heap_is (by simp)
  have q0:W0.heap[w.heap.size]? =some (.cells #[.int .u8 t,.slice A la ca,.slice K n ck] 43):=by rw[←hW0,heap_old_ _ _ (by simp)];exact heap_new_ _ _
  obtain⟨x0,x1,x2⟩:=box_nd (br_ _ W0) q0
  obtain⟨y0,y1,y2⟩:=box_nd (br_ _ W0) p0
  have heq:=intc.equal_any A A' la ca lb cb b b2 W0 (hA3.below hb0) (hB3.below hb0)
  have hsb:intc.sameB b b2=decide (b=b2):=by
   by_cases e:b=b2
   ·subst e;rw[decide_eq_true rfl];exact(intc.sameB_iff hA3.2.1 hB3.2.1).2 rfl
   ·rw[decide_eq_false e];exact intc.sameB_no hA3.2.1 hB3.2.1 e
  rw[hsb] at heq
  have hef:=eqFuncN_any B C K M n ck m cm ks ms W0 hn hm (hK3.below hb0) (hM3.below hb0) hK1 hK2 hM1 hM2 ih
  obtain⟨r2,hr2⟩:=nm_ (decide (b=b2))
  obtain⟨r3,hr3⟩:=nm_ ((decide (n=m) && sameL ks ms))
  rw[hr2] at heq
  rw[hr3] at hef
  rw[hr2,hr3]
  have HE:=hd_ heq
  have HF:=hd_ hef
  have HB:=hd_ hb0
  clear heq hef hb0 hr2 hr3 hsb p0 q0 hz0 hn hm ih hsn hA3 hB3 hK3 hM3 hA1 hA2 hB1 hB2 hK1 hK2 hM1 hM2 alike_of
  by_cases e1:t=t2
  ·subst e1
   rw[decide_eq_true rfl,Bool.true_and]
   cases r2
   ·go_enter Tryz.func166,Tryz.ntmps166
    go_wp2_with fail
    refine HE.out.mono ?_
    rintro e w1 ⟨rfl,rfl⟩
    go_wp2
    go_ret
    exact⟨rfl,HB.out⟩
   ·go_enter Tryz.func166,Tryz.ntmps166
    go_wp2_with fail
    refine HE.out.mono ?_
    rintro e w1 ⟨rfl,rfl⟩
    go_wp2_with fail
    refine HF.out.mono ?_
    rintro e w2 ⟨rfl,hb2⟩
    have hfin:=hd_ (below_then HB.out hb2 (lr_ _))
    clear hb2 HF HE
    go_wp2
    go_ret
    exact⟨rfl,hfin.out⟩
  ·have e1b:(t==t2)=false:=by simpa using e1
   rw[decide_eq_false e1,Bool.false_and,Bool.false_and]
   go_enter Tryz.func166,Tryz.ntmps166
   go_wp2
   go_ret
   exact⟨rfl,HB.out⟩
theorem kidAt_any (B:Nat→Prop)(n:Nd)(i:Nat)(c0 c1 c2:Value)(w:World)(hn:NdC B w n c0 c1 c2)(hi:i≤1000):
 Calls Tryz.prog 93 #[.agg #[c0,c1,c2],.int .i64 i] w (NVal (fun _=>True) w (kidF n i)):=by
 obtain⟨t,b,ks⟩:=n
 obtain⟨rfl,ht,⟨A,la,ca,rfl,hA1,hA2,hA3,_⟩,K,ck,rfl,hK1,hK2,hK3⟩:=NdC.kidsL hn
 have h9:ck≤9223372036854775807:=by unfold maxLen at hK2;omega
 have hkf:kidF (.mk t b ks) i=ks.getD i (.mk 0 [] []):=rfl
 rw[hkf]
 obtain⟨n,hn0⟩:=nm_ (ks.length)
 rw[hn0] at hK1⊢
 obtain⟨W0,hW0⟩:=nm_ ((w.alloc (.cells #[.int .u8 t,.slice A la ca,.slice K n ck] 43)).alloc (.cells #[.int .u8 0,.slice none 0 0,.slice none 0 0] 43))
 have hb0:Below w.heap.size w W0:=by rw[←hW0];exact(below_new _ _).alloc (by simp) _
 have hz0:W0.heap.size=w.heap.size+2:=by rw[←hW0];simp
 have p0:W0.heap[w.heap.size+1]? =some (.cells #[.int .u8 0,.slice none 0 0,.slice none 0 0] 43):=by rw[←hW0];exact heap_is (by simp)
 have q0:W0.heap[w.heap.size]? =some (.cells #[.int .u8 t,.slice A la ca,.slice K n ck] 43):=by rw[←hW0,heap_old_ _ _ (by simp)];exact heap_new_ _ _
 obtain⟨x0,x1,x2⟩:=box_nd (br_ _ W0) q0
 have f0:=fh_ p0 0
 have f1:=fh_ p0 1
 have f2:=fh_ p0 2
 have s0:=(ch_ p0 0).trans rfl
 have s1:=(ch_ p0 1).trans rfl
 have s2:=(ch_ p0 2).trans rfl
 by_cases hlt:i<n
 ·have hz: ¬(n:Int)≤(i:Int):=by omega
  have hz2:(i:Int)< (n:Int):=by omega
  obtain⟨g,off,t1,A1,l1,k1,K1,m1,n1,rfl,e0,e1,e2,hn1⟩:=nd_cells hK3 hb0 i (by rw[hn0];exact hlt)
  have hget:ks.getD i (.mk 0 [] [])=ks[i]'(by rw[hn0];exact hlt):=by rw[List.getD_eq_getElem?_getD,List.getElem?_eq_getElem (by rw[hn0];exact hlt)];rfl
  obtain⟨r0,r1,r2,hB⟩:=res3 (y0:=.int .u8 t1) (y1:=.slice A1 l1 k1) (y2:=.slice K1 m1 n1) (Nat.le_succ _) hb0 p0
  have hn2:NdC (fun g=>g<w.heap.size) w ks[i] (.int .u8 t1) (.slice A1 l1 k1) (.slice K1 m1 n1):=by
   obtain⟨g',off',cs,e,_,hcell,c0,c1,c2,rfl,hh⟩:=hK3.at i (by rw[hn0];exact hlt)
   cases e
   have j0:=hcell 0 _ rfl
   have j1:=hcell 1 _ rfl
   have j2:=hcell 2 _ rfl
   rw[show ndE.sz=3 from rfl] at j0 j1 j2
   rw[Nat.add_zero] at j0
   have k0:=cell_on hb0 j0
   have k1':=cell_on hb0 j1
   have k2:=cell_on hb0 j2
   rw[e0] at k0
   rw[e1] at k1'
   rw[e2] at k2
   cases k0;cases k1';cases k2
   exact NdC.mono (fun g hg=>hg.2) _ _ _ _ (NdC.bound _ _ _ _ hh)
  have hn3:=res3_nd (b:=w.heap.size+1) (y0:=.int .u8 t1) (y1:=.slice A1 l1 k1) (y2:=.slice K1 m1 n1) (fun g hg=>by omega) (NdC.stays (stays_below hb0 _) _ _ _ _ hn2)
  have HE:=hd_ (ai_ hB (NdC.mono (B':=fun _=>True) (fun _ _=>trivial) _ _ _ _ hn3))
  rw[hget]
  clear hB hn1 hn2 hn3 hb0 p0 q0 hK3 hA3 hn hz0 hkf hget
  go_enter Tryz.func93,Tryz.ntmps93
  go_wp2_with fail
  refine bodyPost_ret (v:=.agg #[.int .u8 t1,.slice A1 l1 k1,.slice K1 m1 n1]) ?_ rfl ⟨HE.out.1,_,_,_,_,_,_,_,rfl,HE.out.2⟩
  simp[results,Tryz.results93,go_sem,r0,r1,r2]
 ·have hz:(n:Int)≤(i:Int):=by omega
  have hget:ks.getD i (.mk 0 [] [])=.mk 0 [] []:=by rw[List.getD_eq_getElem?_getD,List.getElem?_eq_none (by omega)];rfl
  obtain⟨r0,r1,r2,hB⟩:=res3 (y0:=.int .u8 0) (y1:=.slice none 0 0) (y2:=.slice none 0 0) (Nat.le_succ _) hb0 p0
  have HE:=hd_ hB
  rw[hget]
  clear hB hb0 p0 q0 hK3 hA3 hn hz0 hkf hget hn0
  go_enter Tryz.func93,Tryz.ntmps93
  go_wp2_with fail
  refine bodyPost_ret (v:=.agg #[.int .u8 0,.slice none 0 0,.slice none 0 0]) ?_ rfl ⟨HE.out,_,_,_,_,_,_,_,rfl,ndC_leaf (by omega) (lr_ _) (Nat.zero_le _) (Bys.nil_ _ _) (fun h=>absurd h (by omega))⟩
  simp[results,Tryz.results93,go_sem,r0,r1,r2]
end Go.Proofs.YtkjkhoglkpepiaaGreatDoor.nmc
namespace Go.Proofs.YtkjkhoglkpepiaaGreatDoor.nmc
open Go.RowKit tlvc tlvd ndc txc txm intc intm
theorem Tryz.infoAttr2:(Tryz.prog.info? 85).map (fun i=>(i.zero,i.size,i.bytes))=some (some (.agg #[.slice none 0 0,.string ⟨#[]⟩]),2,40):=by kernel_rfl
theorem Tryz.infoStr:(Tryz.prog.info? 9).map (fun i=>(i.zero,i.size,i.bytes))=some (some (.string ⟨#[]⟩),1,16):=by kernel_rfl
theorem Tryz.infAs:Inf Tryz.prog 22 85 atE.sz 40:=by
 obtain⟨i0,hi,hz0,hz1,hz2⟩:=info_parts Tryz.infoAttr2
 exact⟨Tryz.underlying22,i0,_,hi,hz0,hz1,hz2,rfl⟩
theorem Tryz.infS:Inf Tryz.prog 115 9 stE.sz 16:=by
 obtain⟨i0,hi,hz0,hz1,hz2⟩:=info_parts Tryz.infoStr
 exact⟨Tryz.underlying115,i0,_,hi,hz0,hz1,hz2,rfl⟩
theorem body_size {B:Nat→Prop}{w:World}{n:Nd}{t:Int}{A:Option Addr}{la ca:Nat}{K:Option Addr}{lk ck:Nat}(h:NdC B w n (.int .u8 t) (.slice A la ca) (.slice K lk ck)):la≤ca∧ca≤maxLen∧Bys w A la n.body∧n.body.length=la:=by
 obtain⟨t',b,ks⟩:=n
 obtain⟨_,_,⟨A',la',ca',e,h1,h2,h3,_⟩,_⟩:=NdC.kidsL h
 simp only[Value.slice.injEq] at e
 obtain⟨rfl,rfl,rfl⟩:=e
 exact⟨h1,h2,h3,h3.1⟩
theorem fld1 (t:Int)(A:Option Addr)(l k:Nat)(K:Option Addr)(m n:Nat)(w:World):(Instr.field 43 (.agg #[.int .u8 t,.slice A l k,.slice K m n]) 1).run Tryz.prog w=.ok (.slice A l k) w:=by kernel_rfl
def APost (w:World)(a:At)(e:Ending)(w':World):Prop:=∃A l c s,e=.returned (.agg #[.slice A l c,.string s])∧atE.hold (fun _=>True) w' a [.slice A l c,.string s]∧Below w.heap.size w w'
theorem attrOf_any (B:Nat→Prop)(n:Nd)(c0 c1 c2:Value)(w:World)(hn:NdC B w n c0 c1 c2):
 Calls Tryz.prog 91 #[.agg #[c0,c1,c2]] w fun e w'=>APost w (toldA n) e w'∧∀A l c s,e=.returned (.agg #[.slice A l c,.string s])→0<l→∀g off sp,A=some ⟨g,off,sp⟩→w.heap.size≤g:=by
 obtain⟨t,A,la,ca,K,lk,ck,rfl,rfl,rfl⟩:=hn.shape
 obtain⟨W0,hW0⟩:=nm_ ((w.alloc (.cells #[.int .u8 t,.slice A la ca,.slice K lk ck] 43)).alloc (.cells #[.slice none 0 0,.string ⟨#[]⟩] 85))
 have hb0:Below w.heap.size w W0:=by rw[←hW0];exact(below_new _ _).alloc (by simp) _
 have hz0:W0.heap.size=w.heap.size+2:=by rw[←hW0];simp
 have p0:W0.heap[w.heap.size+1]? =some (.cells #[.slice none 0 0,.string ⟨#[]⟩] 85):=by rw[←hW0];exact heap_is (by simp)
 have q0:W0.heap[w.heap.size]? =some (.cells #[.int .u8 t,.slice A la ca,.slice K lk ck] 43):=by rw[←hW0,heap_old_ _ _ (by simp)];exact heap_new_ _ _
 obtain⟨x0,x1,x2⟩:=box_nd (br_ _ W0) q0
 have hk0:=kidAt_any B n 0 _ _ _ W0 (NdC.below hb0 _ _ _ _ hn) (by omega)
 have hk1:=fun W (hW:Below W0.heap.size W0 W)=>kidAt_any B n 1 _ _ _ W (NdC.below (below_then hb0 hW (lr_ _)) _ _ _ _ hn) (by omega)
 have hbx:=fun W (hW:Below W0.heap.size W0 W)=>box_nd hW q0
 have HK0:=hd_ hk0
 have HK1:=hd_ hk1
 have HX:=hd_ hbx
 have HB:=hd_ (ai_ hb0 (ai_ p0 hz0))
 clear hk0 hk1 hbx hb0 p0 q0 hz0 hn
 go_enter Tryz.func91,Tryz.ntmps91
 go_wp2_with fail
 refine HK0.out.mono ?_
 rintro e w1 ⟨hb1,t1,A1,l1,k1,K1,m1,n1,rfl,hn1⟩
 obtain⟨h1,h2,h3,h4⟩:=body_size hn1
 have hoid:=oid_any A1 l1 k1 _ w1 h3 h1 h2
 have HO:=hd_ hoid
 have HB1:=hd_ hb1
 have hfd:=fld1 t1 A1 l1 k1 K1 m1 n1
 clear hoid hb1 hn1 h3 h4 h1 h2 HK0 x0 x1 x2
 go_wp2_with fail
 refine HO.out.mono ?_
 rintro e w2 ⟨A2,c2,rfl,hh,hb2⟩
 have hb2:=below_then HB1.out hb2 (lr_ _)
 obtain⟨x0,x1,x2⟩:=HX.out w2 hb2
 have HH:=hd_ hh
 have HC:=hd_ (HK1.out w2 hb2)
 have HB2:=hd_ hb2
 clear hh hb2 HO HK1
 go_wp2_with fail
 refine HC.out.mono ?_
 rintro e w3 ⟨hb3,t3,A3,l3,k3,K3,m3,n3,rfl,hn3⟩
 obtain⟨h1,h2,h3,h4⟩:=body_size hn3
 have hcv:=intc.str_now h3 k3
 have hz:(strOfNums (kidF n 1).body).size≤maxLen:=by rw[strOfNums_size,h4];exact Nat.le_trans h1 h2
 obtain⟨S,hS⟩:=nm_ (strOfNums (kidF n 1).body)
 have htold:toldA n=⟨(oidF (kidF n 0).body).1,S⟩:=by rw[←hS];rfl
 rw[hS] at hcv hz
 have hb3':=below_then HB2.out hb3 (lr_ _)
 have p3:=(hb3'.block _ (Array.getElem?_eq_some_iff.1 HB.out.2.1).1).trans HB.out.2.1
 have hbw:=below_then HB.out.1 hb3' (lr_ _)
 obtain⟨ys,hys⟩:=nm_ ((oidF (kidF n 0).body).1)
 rw[hys] at htold
 have HH2:=hd_ (show intc.IHere w1.heap.size A2 c2 ys w2 by rw[←hys];exact HH.out)
 have HL:=hd_ (congrArg List.length hys)
 have hset:((w3.setCell ⟨w.heap.size+1,0,none⟩ (.slice A2 ys.length c2)).setCell ⟨w.heap.size+1,1,none⟩ (.string S)).heap[w.heap.size+1]? =some (.cells #[.slice A2 ys.length c2,.string S] 85):=set_heap _ _ 1 _ _ _ _ (set_heap _ _ 0 _ _ _ _ p3)
 have r0:=(ch_ hset 0).trans rfl
 have r1:=(ch_ hset 1).trans rfl
 have hB:Below w.heap.size w ((w3.setCell ⟨w.heap.size+1,0,none⟩ (.slice A2 ys.length c2)).setCell ⟨w.heap.size+1,1,none⟩ (.string S)):=(hbw.setCell (p:=⟨w.heap.size+1,0,none⟩) (Nat.le_succ _) _).setCell (p:=⟨w.heap.size+1,1,none⟩) (Nat.le_succ _) _
 have hwl:=HB1.out.size
 have hz0:=HB.out.2.2
 have hfr:0<ys.length→∀g off sp,A2=some ⟨g,off,sp⟩→w.heap.size+2≤g:=fun hn g off sp e=>by
  obtain⟨b',off',e',hb',_⟩:=HH2.out.1.2.2 hn
  have:=HH2.out.2.2.2 b' off' e'
  rw[e'] at e;cases e;omega
 have hins:Ins ((w3.setCell ⟨w.heap.size+1,0,none⟩ (.slice A2 ys.length c2)).setCell ⟨w.heap.size+1,1,none⟩ (.string S)) A2 ys.length ys:=ins_stays (S:=fun g=>w.heap.size+2≤g) ⟨by rw[set_size,set_size];exact lr_ _,fun p hp _=>cell_same (by rw[set_heap_other _ _ _ _ _ (by have hp:w.heap.size+2≤p.block:=hp;omega),set_heap_other _ _ _ _ _ (by have hp:w.heap.size+2≤p.block:=hp;omega)])⟩ (HH2.out.1.below hb3) hfr
 have HE:=hd_ (ai_ hB (ai_ hins (ai_ hz hfr)))
 have f0:=fh_ p3 0
 have f1:=fh_ p3 1
 have s0:=(ch_ p3 0).trans rfl
 have s1:=(ch_ p3 1).trans rfl
 have HT:=hd_ htold
 have hfd3:=fld1 t3 A3 l3 k3 K3 m3 n3
 rw[hys]
 clear hS htold hz hb3' hb3 hbw p3 hset hB hwl hz0 hfr hins hn3 h1 h2 h3 h4 hys HC HB HB1 HB2 HX HH
 go_wp2_with fail
 refine bodyPost_ret (v:=.agg #[.slice A2 ys.length c2,.string S]) ?_ rfl ⟨⟨A2,ys.length,c2,S,rfl,?_,HE.out.1⟩,?_⟩
 ·simp[results,Tryz.results91,go_sem,r0,r1]
 ·rw[HT.out]
  exact⟨_,_,rfl,A2,ys.length,c2,rfl,rfl,HH2.out.2.1,HH2.out.2.2.1,HE.out.2.1,fun _ _ _ _ _=>trivial,HE.out.2.2.1⟩
 ·intro A' l' c' s' e hl g off sp eA
  simp only[Ending.returned.injEq,Value.agg.injEq,Array.mk.injEq,List.cons.injEq,Value.slice.injEq,and_true] at e
  obtain⟨⟨rfl,rfl,rfl⟩,_⟩:=e
  have:=HE.out.2.2.2 hl g off sp eA
  omega
end Go.Proofs.YtkjkhoglkpepiaaGreatDoor.nmc
namespace Go.Proofs.YtkjkhoglkpepiaaGreatDoor.nmc
open Go.RowKit tlvc tlvd ndc txc txm intc intm
theorem partsA_any (B:Nat→Prop)(n:Nd)(c0 c1 c2:Value)(w:World)(hn:NdC B w n c0 c1 c2):
 Calls Tryz.prog 90 #[.agg #[c0,c1,c2],.int .i64 8,.func (.func 91) #[] #[]] w fun e w'=>Below w.heap.size w w'∧∃A c,e=.returned (.slice A ((n.kids.take 8).map toldA).length c)∧((n.kids.take 8).map toldA).length≤c∧c≤maxLen∧Lst atE (fun g=>w.heap.size≤g) w' A ((n.kids.take 8).map toldA):=by
 obtain⟨t,b,ks⟩:=n
 obtain⟨rfl,ht,⟨A,la,ca,rfl,_,_,_,_⟩,K,ck,rfl,hK1,hK2,hK3⟩:=NdC.kidsL hn
 have hent:=enters_of Tryz.func91 (by kernel_rfl) rfl
 have h9:ck≤9223372036854775807:=by unfold maxLen at hK2;omega
 show Calls _ _ _ _ (fun e w'=>Below w.heap.size w w'∧∃A c,e=.returned (.slice A ((ks.take 8).map toldA).length c)∧((ks.take 8).map toldA).length≤c∧c≤maxLen∧Lst atE (fun g=>w.heap.size≤g) w' A ((ks.take 8).map toldA))
 obtain⟨n,hn0⟩:=nm_ (ks.length)
 rw[hn0] at hK1⊢
 obtain⟨k,hk⟩:=nm_ (min n 8)
 have hmin:min ((n:Nat):Int) 8=((k:Nat):Int):=by rw[←hk];omega
 have hkn:k≤n:=by omega
 have hk8:k≤8:=by omega
 have hkc:(k:Int)≤(ck:Int):=by omega
 have hkc2:k≤ck:=by omega
 have htk:ks.take 8=ks.take k:=by
  rw[←hk,←hn0]
  rcases Nat.le_total ks.length 8 with h |h
  ·rw[Nat.min_eq_left h,List.take_of_length_le h,List.take_of_length_le (lr_ _)]
  ·rw[Nat.min_eq_right h]
 have hlk: ∀i,i≤k→((ks.take i).map toldA).length=i:=fun i hi=>by rw[List.length_map,List.length_take];omega
 obtain⟨W0,hW0⟩:=nm_ (w.alloc (.cells #[.int .u8 t,.slice A la ca,.slice K n ck] 43))
 have hb0:Below w.heap.size w W0:=by rw[←hW0];exact below_new _ _
 have q0:W0.heap[w.heap.size]? =some (.cells #[.int .u8 t,.slice A la ca,.slice K n ck] 43):=by rw[←hW0];exact heap_new_ _ _
 obtain⟨x0,x1,x2⟩:=box_nd (br_ _ W0) q0
 obtain⟨TL,hTL⟩:=nm_ ((ks.take 8).map toldA)
 have hTL2:(ks.take k).map toldA=TL:=by rw[←htk];exact hTL
 have hTL3:TL.length=k:=by rw[←hTL2];exact hlk k (lr_ _)
 rw[hTL,hTL3]
 have HTL:=hd_ hTL2
 clear hTL hTL2 hTL3
 have HL:=hd_ (ai_ hn0 (ai_ hK3 (ai_ hb0 (ai_ htk (ai_ hlk (ai_ hkn hk8))))))
 clear hn0 hK3 hb0 htk hlk q0 hK1 hK2 hk hn ht
 go_enter Tryz.func90,Tryz.ntmps90
 go_wp2_with fail
 go_loopg [7,19] (k+1) (fun gk s7 s19 wx=>∃(i:Nat) (Av:Option Addr) (cv:Nat),s7=.slice Av i cv∧s19=.int .i64 i∧i≤k∧k - i<gk∧Hid (LInv atE 85 (fun g=>w.heap.size≤g) W0 (.slice Av i cv) ((ks.take i).map toldA) wx))
 case atStart=>exact⟨0,none,0,rfl,rfl,by omega,by omega,hd_ LInv.start⟩
 case round=>
  obtain⟨i,Av,cv,rfl,rfl,hi,hgk,HI⟩:=hrel
  clear x0 x1 x2
  by_cases hlt:i<k
  ·have hltz:(i:Int)< (k:Int):=by omega
   obtain⟨gk',rfl⟩: ∃g',gk=g'+1:=⟨gk - 1,by omega⟩
   have HN:=hd_ (ai_ (show i+1≤k from hlt) (show k - (i+1)<gk' by omega))
   have hix:i<ks.length:=by rw[HL.out.1];have:=HL.out.2.2.2.2.2.1;omega
   have hbw:=below_then HL.out.2.2.1 HI.out.bel (lr_ _)
   obtain⟨g,off,t1,A1,l1,k1,K1,m1,n1,rfl,e0,e1,e2,hn1⟩:=nd_cells HL.out.2.1 hbw i hix
   have hbx:=below_new wr (.cells #[.int .u8 t1,.slice A1 l1 k1,.slice K1 m1 n1] 43)
   have hcall:=attrOf_any B ks[i] _ _ _ _ (NdC.below hbx _ _ _ _ hn1)
   have hnx:(ks.take i).map toldA++[toldA ks[i]]=(ks.take (i+1)).map toldA:=by rw[List.take_succ_eq_append_getElem hix,List.map_append,List.map_cons,List.map_nil]
   have hlk:=HL.out.2.2.2.2.1 i hi
   have hk8:=HL.out.2.2.2.2.2.2
   have HC:=hd_ hcall
   have HB:=hd_ hbx
   clear hcall hbx hn1 hgk hbw
   go_wp2_with fail
   refine HC.out.mono ?_
   rintro e w2 ⟨⟨A3,l3,c3,s3,rfl,hold,hb2⟩,hfr⟩
   have hfr:=hfr A3 l3 c3 s3 rfl
   have hb2':=hb2
   have hb2:=below_then HB.out hb2 (lr_ _)
   obtain⟨_,_,ee,A4,l4,c4,e4,e5,h1,h2,h3,h4,h5⟩:=hold
   simp only[List.cons.injEq,and_true] at ee
   obtain⟨rfl,rfl⟩:=ee
   simp only[Value.slice.injEq] at e4
   obtain⟨rfl,rfl,rfl⟩:=e4
   have h0:=HB.out.size
   have hwz:=(below_then HL.out.2.2.1 HI.out.bel (lr_ _)).size
   obtain⟨A7,c7,w7,hrun,hI7⟩:=HI.out.push Tryz.infAs (fun g hg=>Nat.le_trans HL.out.2.2.1.size hg) (below_then hb2 (below_new w2 (.cells #[.slice A3 l3 c3,.string s3] 85)) (lr_ _)) (x:=toldA ks[i]) (news:=[.slice A3 l3 c3,.string s3]) (⟨_,_,rfl,A3,l3,c3,rfl,e5,h1,h2,h3.below (below_new _ _),fun hl g off sp e=>⟨Nat.le_trans hwz (Nat.le_trans h0 (hfr hl g off sp e)),.inr (Nat.le_trans h0 (hfr hl g off sp e))⟩,h5⟩) (g1:=w2.heap.size) hb2.size (heap_new_ _ _) (fun j u hu=>by
    simpa using hu) (by rw[hlk];omega) (by rw[hlk];unfold maxLen;omega)
   rw[hlk] at hrun hI7
   rw[hnx] at hI7
   have HI7:=hd_ hI7
   clear hI7 hnx hlk hk8 e0 e1 e2 HC HB hb2 hb2' hfr h0 hwz h1 h2 h3 h4 h5 e5
   go_wp2_with (at_builtin;refine wpl_append rfl (.tmp 23) (.tmp 27) 22 rfl _ _ _ rfl rfl hrun ?_)
   clear hrun
   go_wp2
   go_roundg gk'
   case measure=>omega
   case rel=>exact⟨i+1,A7,c7,rfl,by go_num,HN.out.1,HN.out.2,HI7⟩
  ·obtain rfl:k=i:=by omega
   have hltz: ¬(k:Int)< (k:Int):=by omega
   obtain⟨A2,c2,e2,h1,h2,hLn⟩:=HI.out.row.lst (fun g hg=>Nat.le_trans HL.out.2.2.1.size hg)
   have hlk:=HL.out.2.2.2.2.1 k (lr_ _)
   rw[hlk] at e2 h1
   simp only[Value.slice.injEq] at e2
   obtain⟨rfl,_,rfl⟩:=e2
   rw[HTL.out] at hLn
   have HF:=hd_ (ai_ (below_then HL.out.2.2.1 HI.out.bel (lr_ _)) (ai_ h1 (ai_ h2 hLn)))
   clear h1 h2 hLn hgk hlk
   go_wp2
   go_ret
   exact⟨HF.out.1,Av,cv,rfl,HF.out.2.1,HF.out.2.2.1,HF.out.2.2.2⟩
end Go.Proofs.YtkjkhoglkpepiaaGreatDoor.nmc
