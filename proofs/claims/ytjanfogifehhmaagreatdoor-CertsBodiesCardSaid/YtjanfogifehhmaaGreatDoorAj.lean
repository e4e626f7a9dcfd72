/- The program's closure that tells an odd extension; its searc -/
import Derived.Test.YtjanfogifehhmaaGreatDoorAi
import Derived.Test.YtjanfogifehhmaaGreatDoorAf
set_option maxRecDepth 100000
set_option maxHeartbeats 8000000
set_option linter.unusedVariables false
set_option linter.unusedSimpArgs false
namespace Go.Proofs.YtjanfogifehhmaaGreatDoor.nmc
open Go.RowKit tlvc tlvd ndc txc txm intc intm
theorem cutOd_any (B:Nat→Prop)(n:Nd)(c0 c1 c2:Value)(w:World)(hn:NdC B w n c0 c1 c2):
 Calls Tryz.prog 237 #[.agg #[c0,c1,c2]] w (OVal (fun g=>w.heap.size≤g) w (cutOd n)):=by
 obtain⟨t,A1,l1,k1,K1,m1,n1,rfl,rfl,rfl⟩:=hn.shape
 obtain⟨W0,hW0⟩:=nm_ ((w.alloc (.cells #[.int .u8 t,.slice A1 l1 k1,.slice K1 m1 n1] 49)).alloc (.cells #[.slice none 0 0,.bool false,.slice none 0 0] 109))
 have hb0:Below w.heap.size w W0:=by rw[←hW0];exact(below_new _ _).alloc (by simp) _
 have hz0:W0.heap.size=w.heap.size+2:=by rw[←hW0];simp
 have p0:W0.heap[w.heap.size+1]? =some (.cells #[.slice none 0 0,.bool false,.slice none 0 0] 109):=by rw[←hW0];exact heap_is (by simp)
 have q0:W0.heap[w.heap.size]? =some (.cells #[.int .u8 t,.slice A1 l1 k1,.slice K1 m1 n1] 49):=by rw[←hW0,heap_old_ _ _ (by simp)];exact heap_new_ _ _
 obtain⟨x0,x1,x2⟩:=box_nd (br_ _ W0) q0
 have hcall:=oddOf_any B n _ _ _ W0 (NdC.below hb0 _ _ _ _ hn)
 have HCU:=hd_ (show(cutOd n).oid=(oddOfF n).oid∧(cutOd n).crit=(oddOfF n).crit∧(cutOd n).body=(oddOfF n).body.take 1024 from⟨rfl,rfl,rfl⟩)
 obtain⟨co,hco⟩:=nm_ (cutOd n)
 rw[hco] at HCU⊢
 obtain⟨o,ho⟩:=nm_ (oddOfF n)
 rw[ho] at hcall HCU
 have HC:=hd_ hcall
 have HB:=hd_ (ai_ hb0 (ai_ p0 hz0))
 clear hcall hb0 p0 hz0 q0 hn hco ho
 go_enter Tryz.func237,Tryz.ntmps237
 go_wp2_with fail
 refine HC.out.mono ?_
 rintro e w1 ⟨hb1,A,l,c,K,m,d,rfl,hin,hby⟩
 obtain⟨hB1,hB2,hB3,_⟩:=ByC.bys hby
 obtain⟨hI1,hI2,hI3,hI4⟩:=InC.ins hin
 obtain⟨b1,hb1'⟩:=nm_ (o.crit)
 rw[hb1'] at HCU⊢
 obtain⟨W2,hW2⟩:=nm_ (w1.alloc (.cells #[.slice A l c,.bool b1,.slice K m d] 109))
 have hb12:Below w1.heap.size w1 W2:=by rw[←hW2];exact below_new _ _
 have q2:W2.heap[w1.heap.size]? =some (.cells #[.slice A l c,.bool b1,.slice K m d] 109):=by rw[←hW2];exact heap_new_ _ _
 have hz2:W2.heap.size=w1.heap.size+1:=by rw[←hW2];simp
 have hb2:=below_then hb1 hb12 (lr_ _)
 obtain⟨y0,y1,y2⟩:=box_nd (br_ _ W2) q2
 have h9:d≤9223372036854775807:=by unfold maxLen at hB3;omega
 obtain⟨k,hk⟩:=nm_ (min m 1024)
 have hmin:min ((m:Nat):Int) 1024=((k:Nat):Int):=by rw[←hk];omega
 have hkm:k≤m:=by omega
 have hkd:(k:Int)≤(d:Int):=by omega
 have hkd2:k≤d:=by omega
 have htk:o.body.take 1024=o.body.take k:=take_min _ hB1.1 hk
 have hcl:=bclone_any K k d (o.body.take k) W2 ((hB1.below hb12).upto hkm) hkd2 hB3 (by omega)
 have HCL:=hd_ hcl
 have HZ:=hd_ (ai_ hb2 (ai_ q2 (ai_ hz2 (ai_ hb1.size (ai_ (hin.below hb12) htk)))))
 have HNE:=hd_ (show 0<l→∀g off sp,A=some ⟨g,off,sp⟩→g≠w1.heap.size from fun hl g off sp e=>by
  obtain⟨b',off',e',hb',_⟩:=hI1.2.2 hl
  rw[e'] at e;cases e;omega)
 clear hcl hb1 hB1 hB2 hI1 hI2 hI3 hI4 hin hby hb12 q2 hz2 hb2 hk htk HC hb1' x0 x1 x2
 subst hW2
 go_wp2_with fail
 refine HCL.out.mono ?_
 rintro e w3 ⟨A5,c5,rfl,hby5,hc5,hb3,hfar⟩
 have hz0:=HB.out.2.2
 have hz1:=HZ.out.2.2.2.1
 have hz2:=HZ.out.2.2.1
 have q3:=(hb3.block w1.heap.size (by omega)).trans HZ.out.2.1
 have hb03:=below_then HZ.out.1 hb3 (lr_ _)
 have p3:=(hb03.block (w.heap.size+1) (by omega)).trans HB.out.2.1
 have g2:=fh_ q3 2
 have t2:=(ch_ q3 2).trans rfl
 obtain⟨W4,hW4⟩:=nm_ (w3.setCell ⟨w1.heap.size,2,none⟩ (.slice A5 k c5))
 have q4:W4.heap[w1.heap.size]? =some (.cells #[.slice A l c,.bool b1,.slice A5 k c5] 109):=by rw[←hW4];exact set_heap _ _ 2 _ _ _ _ q3
 have p4:W4.heap[w.heap.size+1]? =some (.cells #[.slice none 0 0,.bool false,.slice none 0 0] 109):=by rw[←hW4,set_heap_other _ _ _ _ _ (by omega)];exact p3
 have hb4:Below w.heap.size w W4:=by rw[←hW4];exact(below_then HB.out.1 hb03 (lr_ _)).setCell (show w.heap.size≤w1.heap.size by omega) _
 have hs4: ∀g,g≠w1.heap.size→W4.heap[g]? =w3.heap[g]? :=fun g hg=>by rw[←hW4,set_heap_other _ _ _ _ _ hg]
 have hz4:W4.heap.size=w3.heap.size:=by rw[←hW4,set_size]
 have hz3:=hb3.size
 have hin4:InC (fun g=>w.heap.size+2≤g∧g≠w1.heap.size) W4 o.oid (.slice A l c):=by
  obtain⟨A',l',c',e,h1,h2,h3,h4⟩:=HZ.out.2.2.2.2.1
  simp only[Value.slice.injEq] at e
  obtain⟨rfl,rfl,rfl⟩:=e
  have hne:0<l→∀g off sp,A=some ⟨g,off,sp⟩→g≠w1.heap.size:=fun hl g off sp e=>HNE.out hl g off sp e
  exact⟨A,l,c,rfl,h1,h2,ins_stays (S:=fun g=>g≠w1.heap.size) ⟨by rw[hz4];exact lr_ _,fun p hp _=>cell_same (hs4 _ hp)⟩ (h3.below hb3) hne,fun hl g off sp e=>⟨by have:=h4 hl g off sp e;omega,hne hl g off sp e⟩⟩
 have hby4:ByC (fun g=>w.heap.size+2≤g∧g≠w1.heap.size) W4 (o.body.take k) (.slice A5 k c5):=
  ⟨A5,k,c5,rfl,hc5.1,hc5.2,bys_stays (B:=fun g=>w1.heap.size+1≤g) ⟨by rw[hz4];exact lr_ _,fun p hp _=>cell_same (hs4 _ (by have hp:w1.heap.size+1≤p.block:=hp;omega))⟩ hby5 (fun _ g off sp e=>by have:=hfar g off sp e;omega),fun _ g off sp e=>by have:=hfar g off sp e;omega⟩
 obtain⟨r0,r1,r2,hB⟩:=res3 (b:=w.heap.size+1) (y0:=.slice A l c) (y1:=.bool b1) (y2:=.slice A5 k c5) (Nat.le_succ _) hb4 p4
 have hfin: ∀(S:Nat→Prop),(∀g,S g→g≠w.heap.size+1)→∀p:Addr,S p.block→(((W4.setCell ⟨w.heap.size+1,0,none⟩ (.slice A l c)).setCell ⟨w.heap.size+1,1,none⟩ (.bool b1)).setCell ⟨w.heap.size+1,2,none⟩ (.slice A5 k c5)).cell? p=W4.cell? p:=fun S hS p hp=>cell_same (set3_other W4 _ _ _ _ (hS _ hp))
 have hod:OdC (fun g=>w.heap.size≤g) (((W4.setCell ⟨w.heap.size+1,0,none⟩ (.slice A l c)).setCell ⟨w.heap.size+1,1,none⟩ (.bool b1)).setCell ⟨w.heap.size+1,2,none⟩ (.slice A5 k c5)) co (.slice A l c) (.bool b1) (.slice A5 k c5):=by
  refine⟨?_,by rw[HCU.out.2.1],?_⟩
  ·rw[HCU.out.1]
   exact(hin4.stays ⟨by rw[show(((W4.setCell ⟨w.heap.size+1,0,none⟩ (.slice A l c)).setCell ⟨w.heap.size+1,1,none⟩ (.bool b1)).setCell ⟨w.heap.size+1,2,none⟩ (.slice A5 k c5)).heap.size=W4.heap.size from set3_size W4 _ _ _ _];exact lr_ _,fun p hp _=>hfin _ (fun g hg=>by omega) p hp⟩).mono (fun g hg=>by omega)
  ·rw[HCU.out.2.2,HZ.out.2.2.2.2.2]
   exact(hby4.stays ⟨by rw[show(((W4.setCell ⟨w.heap.size+1,0,none⟩ (.slice A l c)).setCell ⟨w.heap.size+1,1,none⟩ (.bool b1)).setCell ⟨w.heap.size+1,2,none⟩ (.slice A5 k c5)).heap.size=W4.heap.size from set3_size W4 _ _ _ _];exact lr_ _,fun p hp _=>hfin _ (fun g hg=>by omega) p hp⟩).mono (fun g hg=>by omega)
 have f0:=fh_ p4 0
 have f1:=fh_ p4 1
 have f2:=fh_ p4 2
 have s0:=(ch_ p4 0).trans rfl
 have s1:=(ch_ p4 1).trans rfl
 have s2:=(ch_ p4 2).trans rfl
 have v0:=(ch_ q4 0).trans rfl
 have v1:=(ch_ q4 1).trans rfl
 have v2:=(ch_ q4 2).trans rfl
 have HE:=hd_ (ai_ hB hod)
 have hce:co.crit=b1:=HCU.out.2.1
 have HCE:=hd_ hce
 clear hB hod hfin hby4 hin4 hz4 hs4 hb4 q4 p4 p3 hb03 q3 hz0 hz1 hz2 hz3 hb3 hby5 hc5 hfar HCL hce y0 y1 y2
 subst hW4
 go_wp2_with fail
 refine bodyPost_ret (v:=.agg #[.slice A l c,.bool b1,.slice A5 k c5]) ?_ rfl ⟨HE.out.1,_,_,_,_,_,_,by rw[HCE.out],by rw[HCE.out];exact HE.out.2⟩
 simp[results,Tryz.results237,go_sem,r0,r1,r2]
theorem tagIs_any (B:Nat→Prop)(n:Nd)(c0 c1 c2:Value)(q:Nat)(tg:Int)(w:World)(hn:NdC B w n c0 c1 c2)(hq:w.heap[q]? =some (.cells #[.int .u8 tg] 5)):
 Calls Tryz.prog 219 #[.agg #[c0,c1,c2],.pointer (some ⟨q,0,none⟩)] w fun e w'=>e=.returned (.bool (decide (n.tag=tg)))∧Below w.heap.size w w':=by
 obtain⟨t,b,ks⟩:=n
 obtain⟨rfl,ht,⟨A1,l1,k1,rfl,_,_,_,_⟩,K1,ck,rfl,_,_,_⟩:=NdC.kidsL hn
 obtain⟨n1,hn1⟩:=nm_ (ks.length)
 rw[hn1]
 obtain⟨W0,hW0⟩:=nm_ (w.alloc (.cells #[.int .u8 t,.slice A1 l1 k1,.slice K1 n1 ck] 49))
 have hb0:Below w.heap.size w W0:=by rw[←hW0];exact below_new _ _
 have q0:W0.heap[w.heap.size]? =some (.cells #[.int .u8 t,.slice A1 l1 k1,.slice K1 n1 ck] 49):=by rw[←hW0];exact heap_new_ _ _
 obtain⟨x0,x1,x2⟩:=box_nd (br_ _ W0) q0
 have d0:W0.cell? ⟨q,0,none⟩=some (.int .u8 tg):=(ch_ ((hb0.block q (Array.getElem?_eq_some_iff.1 hq).1).trans hq) 0).trans rfl
 have hte:(t==tg)=decide (t=tg):=by rw[Bool.eq_iff_iff];simp
 have HB:=hd_ hb0
 rw[show(Nd.mk t b ks).tag=t from rfl]
 clear hb0 q0 hn hq hn1
 go_enter Tryz.func219,Tryz.ntmps219
 go_wp2
 go_ret
 exact⟨by first |rfl | (rw[←hte];rfl) |simp[hte],HB.out⟩
theorem indexTag_any (B:Nat→Prop)(A:Option Addr)(n c:Nat)(ks:List Nd)(q:Nat)(tg:Int)(w:World)(hl:ks.length=n)(hL:Lst ndE B w A ks)(hc:n≤c)(hm:c≤maxLen)(hq:w.heap[q]? =some (.cells #[.int .u8 tg] 5)):
 Calls Tryz.prog 218 #[.slice A n c,.func (.func 219) #[] #[.pointer (some ⟨q,0,none⟩)]] w fun e w'=>Below w.heap.size w w'∧((e=.returned (.int .i64 (-1))∧∀k∈ks,k.tag≠tg)∨ ∃(i:Nat) (hi:i<ks.length),e=.returned (.int .i64 i)∧ks[i].tag=tg∧∀(j:Nat) (h:j<ks.length),j<i→ks[j].tag≠tg):=by
 have h9:c≤9223372036854775807:=by unfold maxLen at hm;omega
 have hent:=enters_of Tryz.func219 (by kernel_rfl) rfl
 have HL:=hd_ (ai_ hl (ai_ hL hq))
 clear hl hL hq hm
 go_enter Tryz.func218,Tryz.ntmps218
 go_wp2_with fail
 go_loopg [8] (n+1) (fun gk s8 wx=>∃(i:Nat),s8=.int .i64 i∧i≤n∧n - i<gk∧Hid (Below w.heap.size w wx∧∀(j:Nat) (hj:j<i) (h:j<ks.length),ks[j].tag≠tg))
 case atStart=>exact⟨0,rfl,by omega,by omega,hd_ ⟨br_ _ _,fun j hj=>absurd hj (by omega)⟩⟩
 case round=>
  obtain⟨i,rfl,hi,hgk,HI⟩:=hrel
  by_cases hlt:i<n
  ·have hltz:(i:Int)< (n:Int):=by omega
   obtain⟨gk',rfl⟩: ∃g',gk=g'+1:=⟨gk - 1,by omega⟩
   have HN:=hd_ (ai_ (show i+1≤n from hlt) (show n - (i+1)<gk' by omega))
   have hix:i<ks.length:=by rw[HL.out.1];exact hlt
   obtain⟨g,off,t1,A1,l1,k1,K1,m1,n1,rfl,e0,e1,e2,hn1⟩:=nd_cells HL.out.2.1 HI.out.1 i hix
   have hq1:=(HI.out.1.block q (Array.getElem?_eq_some_iff.1 HL.out.2.2).1).trans HL.out.2.2
   have hcall:=tagIs_any B ks[i] _ _ _ q tg wr hn1 hq1
   obtain⟨r,hr⟩:=nm_ (decide (ks[i].tag=tg))
   rw[hr] at hcall
   have HC:=hd_ hcall
   have HR:=hd_ hr
   clear hcall hr hq1 hn1 hgk
   go_wp2_with fail
   refine HC.out.mono ?_
   rintro e w3 ⟨rfl,hb3⟩
   have hfin:=hd_ (below_then HI.out.1 hb3 (lr_ _))
   clear hb3 HC e0 e1 e2
   cases r with
   |true=>
    have HF:=hd_ (show Below w.heap.size w w3∧∃(i':Nat) (hi':i'<ks.length),i'=i∧ks[i'].tag=tg∧∀(j:Nat) (h:j<ks.length),j<i'→ks[j].tag≠tg from⟨hfin.out,i,hix,rfl,of_decide_eq_true HR.out,fun j h hj=>HI.out.2 j hj h⟩)
    clear HR hix
    go_wp2
    go_ret
    obtain⟨f1,i',hi',e',f2,f3⟩:=HF.out
    subst e'
    exact⟨f1,.inr ⟨i',hi',rfl,f2,f3⟩⟩
   |false=>
    have HS:=hd_ (show Below w.heap.size w w3∧∀(j:Nat) (hj:j<i+1) (h:j<ks.length),ks[j].tag≠tg from⟨hfin.out,fun j hj h=>by
     rcases Nat.lt_or_ge j i with h1 |h1
     ·exact HI.out.2 j h1 h
     ·obtain rfl:j=i:=by omega
      exact of_decide_eq_false HR.out⟩)
    clear HR hix
    go_wp2
    go_roundg gk'
    case measure=>omega
    case rel=>exact⟨i+1,by go_num,HN.out.1,HN.out.2,HS⟩
  ·obtain rfl:n=i:=by omega
   have hltz: ¬(n:Int)< (n:Int):=by omega
   clear hgk
   go_wp2
   go_ret
   exact⟨HI.out.1,.inl ⟨rfl,fun k hk=>by
    obtain⟨j,hj,rfl⟩:=List.mem_iff_getElem.1 hk
    exact HI.out.2 j (by have:=HL.out.1;omega) hj⟩⟩
theorem find_at {α:Type}{p:α→Bool}: ∀{xs:List α} {i:Nat} (hi:i<xs.length),p xs[i]=true→(∀(j:Nat) (hj:j<i),p (xs[j]'(by omega))=false)→xs.find? p=some xs[i]
 |x::xs,0,_,h,_=>by
  rw[List.find?_cons]
  have h:p x=true:=h
  rw[h]
  rfl
 |x::xs,i+1,hi,h,hb=>by
  rw[List.find?_cons]
  have h0:p x=false:=hb 0 (by omega)
  rw[h0]
  exact find_at (by simpa using hi) h (fun j hj=>hb (j+1) (by omega))
 | [],_,hi,_,_=>absurd hi (by simp)
theorem find_no {α:Type}{p:α→Bool}{xs:List α}(h: ∀x∈xs,p x=false):xs.find? p=none:=by
 rw[List.find?_eq_none]
 intro x hx
 rw[h x hx]
 decide
theorem tagged_any (B:Nat→Prop)(n:Nd)(tg:Int)(c0 c1 c2:Value)(w:World)(hn:NdC B w n c0 c1 c2)(ht0:0≤tg∧tg≤255):
 Calls Tryz.prog 170 #[.agg #[c0,c1,c2],.int .u8 tg] w (NVal B w (taggedF n tg)):=by
 obtain⟨t,b,ks⟩:=n
 obtain⟨rfl,ht,⟨A1,l1,k1,rfl,_,_,_,_⟩,K1,ck,rfl,hK1,hK2,hK3⟩:=NdC.kidsL hn
 have h9:ck≤9223372036854775807:=by unfold maxLen at hK2;omega
 have htf:taggedF (.mk t b ks) tg=(ks.find? (fun k=>decide (k.tag=tg))).getD zeroN:=rfl
 rw[htf]
 obtain⟨n,hn0⟩:=nm_ (ks.length)
 rw[hn0] at hK1⊢
 obtain⟨W0,hW0⟩:=nm_ (((w.alloc (.cells #[.int .u8 t,.slice A1 l1 k1,.slice K1 n ck] 49)).alloc (.cells #[.int .u8 tg] 5)).alloc (.cells #[.int .u8 0,.slice none 0 0,.slice none 0 0] 49))
 have hb0:Below w.heap.size w W0:=by rw[←hW0];exact((below_new _ _).alloc (by simp) _).alloc (by simp;omega) _
 have hz0:W0.heap.size=w.heap.size+3:=by rw[←hW0];simp
 have q0:W0.heap[w.heap.size]? =some (.cells #[.int .u8 t,.slice A1 l1 k1,.slice K1 n ck] 49):=by rw[←hW0,heap_old_ _ _ (by simp;omega),heap_old_ _ _ (by simp)];exact heap_new_ _ _
 have q1:W0.heap[w.heap.size+1]? =some (.cells #[.int .u8 tg] 5):=by rw[←hW0,heap_old_ _ _ (by simp)];exact heap_is (by simp)
 have p0:W0.heap[w.heap.size+1+1]? =some (.cells #[.int .u8 0,.slice none 0 0,.slice none 0 0] 49):=by rw[←hW0];exact heap_is (by simp)
 have hmf: ∀(fn:Fn) (first cap:Array Value) (w:World),(Instr.makeFunc fn first cap).run Tryz.prog w=.ok (.func fn first cap) w:=fun _ _ _ _=>rfl
 obtain⟨x0,x1,x2⟩:=box_nd (br_ _ W0) q0
 have HC:=hd_ (indexTag_any B K1 n ck ks (w.heap.size+1) tg W0 hn0 (hK3.below hb0) hK1 hK2 q1)
 have HB:=hd_ (ai_ hb0 (ai_ p0 (ai_ hz0 (ai_ hK3 hn0))))
 have HX:=hd_ (fun W (hW:Below W0.heap.size W0 W)=>box_nd hW q0)
 obtain⟨R,hR⟩:=nm_ ((ks.find? (fun k=>decide (k.tag=tg))).getD zeroN)
 rw[hR]
 have HR:=hd_ hR
 clear hb0 hz0 q0 q1 p0 hK3 hn hn0 hR htf hK1 hK2 ht ht0
 go_enter Tryz.func170,Tryz.ntmps170
 go_wp2_with fail
 refine HC.out.mono ?_
 rintro e w1 ⟨hb1,hpost⟩
 have hz:=HB.out.2.2.1
 have hBw:=below_then HB.out.1 hb1 (lr_ _)
 have p1:=(hb1.block (w.heap.size+1+1) (by omega)).trans HB.out.2.1
 have f0:=fh_ p1 0
 have f1:=fh_ p1 1
 have f2:=fh_ p1 2
 have s0:=(ch_ p1 0).trans rfl
 have s1:=(ch_ p1 1).trans rfl
 have s2:=(ch_ p1 2).trans rfl
 clear x0 x1 x2
 obtain⟨x0,x1,x2⟩:=HX.out w1 hb1
 rcases hpost with ⟨rfl,hno⟩ | ⟨i,hi,rfl,hyes,hbef⟩
 ·obtain⟨r0,r1,r2,hB⟩:=res3 (b:=w.heap.size+1+1) (y0:=.int .u8 0) (y1:=.slice none 0 0) (y2:=.slice none 0 0) (by omega) hBw p1
  have hRz:R=zeroN:=by rw[←HR.out,find_no (fun k hk=>decide_eq_false (hno k hk))];rfl
  subst hRz
  have HE:=hd_ hB
  clear hB hBw p1 hb1 hno HC HB HX hz HR
  go_wp2_with fail
  refine bodyPost_ret (v:=.agg #[.int .u8 0,.slice none 0 0,.slice none 0 0]) ?_ rfl ⟨HE.out,_,_,_,_,_,_,_,rfl,ndC_leaf (by omega) (lr_ _) (Nat.zero_le _) (Bys.nil_ _ _) (fun h=>absurd h (by omega))⟩
  simp[results,Tryz.results170,go_sem,r0,r1,r2]
 ·have hin:i<n:=by have:=HB.out.2.2.2.2;omega
  have hz1: ¬(i:Int)<0:=by omega
  have hz2:(i:Int)< (n:Int):=by omega
  have hz3: ¬(n:Int)≤(i:Int):=by omega
  obtain⟨g,off,t1,A2,l2,k2,K2,m2,n2,rfl,e0,e1,e2,hn1⟩:=nd_cells HB.out.2.2.2.1 hBw i hi
  have hRz:R=ks[i]:=by rw[←HR.out,find_at hi (decide_eq_true hyes) (fun j hj=>decide_eq_false (hbef j (by omega) hj))];rfl
  obtain⟨r0,r1,r2,hB⟩:=res3 (b:=w.heap.size+1+1) (y0:=.int .u8 t1) (y1:=.slice A2 l2 k2) (y2:=.slice K2 m2 n2) (by omega) hBw p1
  have hn2:NdC (fun g=>B g∧g<w.heap.size) w ks[i] (.int .u8 t1) (.slice A2 l2 k2) (.slice K2 m2 n2):=by
   obtain⟨g',off',cs,e,_,hcell,c0,c1,c2,rfl,hh⟩:=HB.out.2.2.2.1.at i hi
   cases e
   have j0:=hcell 0 _ rfl
   have j1:=hcell 1 _ rfl
   have j2:=hcell 2 _ rfl
   rw[show ndE.sz=3 from rfl] at j0 j1 j2
   rw[Nat.add_zero] at j0
   have k0:=cell_on hBw j0
   have k1':=cell_on hBw j1
   have k2:=cell_on hBw j2
   rw[e0] at k0
   rw[e1] at k1'
   rw[e2] at k2
   cases k0;cases k1';cases k2
   exact NdC.bound _ _ _ _ hh
  have hn3:=res3_nd (b:=w.heap.size+1+1) (y0:=.int .u8 t1) (y1:=.slice A2 l2 k2) (y2:=.slice K2 m2 n2) (fun g hg=>by omega) (NdC.stays (stays_below hBw _) _ _ _ _ hn2)
  have HE:=hd_ (ai_ hB (NdC.mono (B':=B) (fun g hg=>hg.1) _ _ _ _ hn3))
  rw[←hRz] at HE
  clear hB hBw p1 hb1 hbef hyes HC HB HX hz HR hn1 hn2 hn3 hRz hi
  go_wp2_with fail
  refine bodyPost_ret (v:=.agg #[.int .u8 t1,.slice A2 l2 k2,.slice K2 m2 n2]) ?_ rfl ⟨HE.out.1,_,_,_,_,_,_,_,rfl,HE.out.2⟩
  simp[results,Tryz.results170,go_sem,r0,r1,r2]
theorem isOid_any (A B:Option Addr)(n c m d:Nat)(xs ys:List Int)(v1 v2:Value)(q:Nat)(w:World)(hx:Ins w A n xs)(hm:n≤maxLen)(hy:Ins w B m ys)(hq:w.heap[q]? =some (.cells #[.slice B m d,v1,v2] 109)):
 Calls Tryz.prog 137 #[.slice A n c,.pointer (some ⟨q,0,none⟩)] w fun e w'=>e=.returned (.bool (decide (xs=ys)))∧Below w.heap.size w w':=by
 have d0:w.cell? ⟨q,0,none⟩=some (.slice B m d):=(ch_ hq 0).trans rfl
 have HC:=hd_ (ieq_any A B n c m d xs ys w hx hy hm)
 obtain⟨r,hr⟩:=nm_ (decide (xs=ys))
 rw[hr] at HC⊢
 clear hx hm hy hq hr
 go_enter Tryz.func137,Tryz.ntmps137
 go_wp2_with fail
 refine HC.out.mono ?_
 rintro e w1 ⟨rfl,k,rfl⟩
 have HB:=hd_ (belowD (br_ w.heap.size w) k)
 clear HC d0
 go_wp2
 go_ret
 exact⟨rfl,HB.out⟩
theorem indexOid_any (S:Nat→Prop)(A B:Option Addr)(n c m d:Nat)(xs:List (List Int))(ys:List Int)(v1 v2:Value)(q:Nat)(w:World)(hl:xs.length=n)(hL:Lst inE S w A xs)(hc:n≤c)(hm:c≤maxLen)(hy:Ins w B m ys)(hq:w.heap[q]? =some (.cells #[.slice B m d,v1,v2] 109)):
 Calls Tryz.prog 203 #[.slice A n c,.func (.func 137) #[] #[.pointer (some ⟨q,0,none⟩)]] w fun e w'=>Below w.heap.size w w'∧∃r:Int,e=.returned (.int .i64 r)∧(0≤r↔ys∈xs):=by
 have h9:c≤9223372036854775807:=by unfold maxLen at hm;omega
 have hent:=enters_of Tryz.func137 (by kernel_rfl) rfl
 have HL:=hd_ (ai_ hl (ai_ hL (ai_ hy hq)))
 clear hl hL hq hy hm
 go_enter Tryz.func203,Tryz.ntmps203
 go_wp2_with fail
 go_loopg [8] (n+1) (fun gk s8 wx=>∃(i:Nat),s8=.int .i64 i∧i≤n∧n - i<gk∧Hid (Below w.heap.size w wx∧∀(j:Nat) (h:j<xs.length),j<i→xs[j]≠ys))
 case atStart=>exact⟨0,rfl,by omega,by omega,hd_ ⟨br_ _ _,fun j _ hj=>absurd hj (by omega)⟩⟩
 case round=>
  obtain⟨i,rfl,hi,hgk,HI⟩:=hrel
  by_cases hlt:i<n
  ·have hltz:(i:Int)< (n:Int):=by omega
   obtain⟨gk',rfl⟩: ∃g',gk=g'+1:=⟨gk - 1,by omega⟩
   have HN:=hd_ (ai_ (show i+1≤n from hlt) (show n - (i+1)<gk' by omega))
   have hix:i<xs.length:=by rw[HL.out.1];exact hlt
   obtain⟨g,off,cs,rfl,_,hcell,e0',rfl,A1,l1,k1,rfl,i1,i2,i3,_⟩:=(HL.out.2.1.below HI.out.1).at i hix
   have e0:=hcell 0 _ rfl
   rw[show inE.sz=1 from rfl,Nat.mul_one,Nat.add_zero] at e0
   have hq1:=(HI.out.1.block q (Array.getElem?_eq_some_iff.1 HL.out.2.2.2).1).trans HL.out.2.2.2
   have hcall:=isOid_any A1 B l1 k1 m d xs[i] ys v1 v2 q wr i3 (Nat.le_trans i1 i2) (HL.out.2.2.1.below HI.out.1) hq1
   obtain⟨r,hr⟩:=nm_ (decide (xs[i]=ys))
   rw[hr] at hcall
   have HC:=hd_ hcall
   have HR:=hd_ hr
   clear hcall hr hq1 i1 i2 i3 hcell hgk
   go_wp2_with fail
   refine HC.out.mono ?_
   rintro e w3 ⟨rfl,hb3⟩
   have hfin:=hd_ (below_then HI.out.1 hb3 (lr_ _))
   clear hb3 HC e0
   cases r with
   |true=>
    have HF:=hd_ (show ys∈xs from by rw[←of_decide_eq_true HR.out];exact List.getElem_mem hix)
    clear HR hix
    go_wp2
    go_ret
    exact⟨hfin.out,i,rfl,fun _=>HF.out,fun _=>by omega⟩
   |false=>
    have HS:=hd_ (show Below w.heap.size w w3∧∀(j:Nat) (h:j<xs.length),j<i+1→xs[j]≠ys from⟨hfin.out,fun j h hj=>by
     rcases Nat.lt_or_ge j i with h1 |h1
     ·exact HI.out.2 j h h1
     ·obtain rfl:j=i:=by omega
      exact of_decide_eq_false HR.out⟩)
    clear HR hix
    go_wp2
    go_roundg gk'
    case measure=>omega
    case rel=>exact⟨i+1,by go_num,HN.out.1,HN.out.2,HS⟩
  ·obtain rfl:n=i:=by omega
   have hltz: ¬(n:Int)< (n:Int):=by omega
   clear hgk
   go_wp2
   go_ret
   exact⟨HI.out.1, -1,rfl,fun h=>absurd h (by decide),fun h=>by
    obtain⟨j,hj,e⟩:=List.mem_iff_getElem.1 h
    exact absurd e (HI.out.2 j hj (by have:=HL.out.1;omega))⟩
theorem contains_any (S:Nat→Prop)(A B:Option Addr)(n c m d:Nat)(xs:List (List Int))(ys:List Int)(v1 v2:Value)(q:Nat)(w:World)(hl:xs.length=n)(hL:Lst inE S w A xs)(hc:n≤c)(hm:c≤maxLen)(hy:Ins w B m ys)(hq:w.heap[q]? =some (.cells #[.slice B m d,v1,v2] 109)):
 Calls Tryz.prog 136 #[.slice A n c,.func (.func 137) #[] #[.pointer (some ⟨q,0,none⟩)]] w fun e w'=>e=.returned (.bool (decide (ys∈xs)))∧Below w.heap.size w w':=by
 have HC:=hd_ (indexOid_any S A B n c m d xs ys v1 v2 q w hl hL hc hm hy hq)
 clear hl hL hc hm hy hq
 go_enter Tryz.func136,Tryz.ntmps136
 go_wp2_with fail
 refine HC.out.mono ?_
 rintro e w1 ⟨hb1,r,rfl,hiff⟩
 have HF:=hd_ (ai_ hb1 (show decide (0≤r)=decide (ys∈xs) from decide_eq_decide.2 hiff))
 clear hb1 hiff HC
 go_wp2
 go_ret
 exact⟨by rw[←HF.out.2];rfl,HF.out.1⟩
theorem eqFuncX_any (B C:Nat→Prop)(A A':Option Addr)(n c m d:Nat)(xs ys:List Nd)(w:World)(hl:xs.length=n)(hl2:ys.length=m)(hL:Lst ndE B w A xs)(hL2:Lst ndE C w A' ys)(hc:n≤c)(hm:c≤maxLen)(hc2:m≤d)(hm2:d≤maxLen)
 (ih: ∀k∈xs,∀(m:Nd) (v u:Value) (w:World),NdV B w k v→NdV C w m u→Calls Tryz.prog 198 #[v,u] w fun e w'=>e=.returned (.bool (sameN k m))∧Below w.heap.size w w'):
 Calls Tryz.prog 233 #[.slice A n c,.slice A' m d,.func (.func 198) #[] #[]] w fun e w'=>e=.returned (.bool (decide (n=m) && sameL xs ys))∧Below w.heap.size w w':=by
 have h9:c≤9223372036854775807:=by unfold maxLen at hm;omega
 have h92:d≤9223372036854775807:=by unfold maxLen at hm2;omega
 by_cases hnm:n=m
 ·subst hnm
  rw[decide_eq_true rfl,Bool.true_and]
  obtain⟨R,hR⟩:=nm_ (sameL xs ys)
  rw[hR]
  have hent:=enters_of Tryz.func198 (by kernel_rfl) rfl
  have HR:=hd_ (show sameL (xs.drop 0) (ys.drop 0)=R by rw[List.drop_zero,List.drop_zero];exact hR)
  have HL:=hd_ (ai_ hl (ai_ hl2 (ai_ hL hL2)))
  have HIH:=hd_ ih
  clear hl hl2 hL hL2 hR hm hm2 ih
  go_enter Tryz.func233,Tryz.ntmps233
  go_wp2_with fail
  go_loopg [17] (n+1) (fun gk s17 wx=>∃(i:Nat),s17=.int .i64 i∧i≤n∧n - i<gk∧Hid (sameL (xs.drop i) (ys.drop i)=R∧Below w.heap.size w wx))
  case atStart=>exact⟨0,rfl,by omega,by omega,hd_ ⟨HR.out,br_ _ _⟩⟩
  case round=>
   obtain⟨i,rfl,hi,hgk,HI⟩:=hrel
   clear HR
   by_cases hlt:i<n
   ·have hltz:(i:Int)< (n:Int):=by omega
    obtain⟨gk',rfl⟩: ∃g',gk=g'+1:=⟨gk - 1,by omega⟩
    have HN:=hd_ (ai_ (show i+1≤n from hlt) (show n - (i+1)<gk' by omega))
    have hix:i<xs.length:=by rw[HL.out.1];exact hlt
    have hiy:i<ys.length:=by rw[HL.out.2.1];exact hlt
    obtain⟨g,off,t1,A1,l1,k1,K1,m1,n1,rfl,e0,e1,e2,hn1⟩:=nd_cells HL.out.2.2.1 HI.out.2 i hix
    obtain⟨g',off',t2,A2,l2,k2,K2,m2,n2,rfl,e0',e1',e2',hn2⟩:=nd_cells HL.out.2.2.2 HI.out.2 i hiy
    have hbx:Below wr.heap.size wr ((wr.alloc (.cells #[.int .u8 t1,.slice A1 l1 k1,.slice K1 m1 n1] 49)).alloc (.cells #[.int .u8 t2,.slice A2 l2 k2,.slice K2 m2 n2] 49)):=(below_new _ _).alloc (by simp) _
    have hcall:=HIH.out xs[i] (List.getElem_mem hix) ys[i] _ _ _ ⟨_,_,_,rfl,NdC.below hbx _ _ _ _ hn1⟩ ⟨_,_,_,rfl,NdC.below hbx _ _ _ _ hn2⟩
    have hbx1:=below_new wr (.cells #[.int .u8 t1,.slice A1 l1 k1,.slice K1 m1 n1] 49)
    have u0:=cell_on hbx1 e0'
    have u1:=cell_on hbx1 e1'
    have u2:=cell_on hbx1 e2'
    have hst:=sameL_step hix (HL.out.1.trans HL.out.2.1.symm) HI.out.1
    obtain⟨r,hr⟩:=nm_ (sameN xs[i] ys[i])
    rw[hr] at hcall hst
    have HC:=hd_ hcall
    have HS:=hd_ hst
    have HB:=hd_ (below_then HI.out.2 hbx (lr_ _))
    clear hcall hst hr hbx hbx1 hn1 hn2 hgk
    go_wp2_with fail
    refine HC.out.mono ?_
    rintro e w3 ⟨rfl,hb3⟩
    have hfin:=hd_ (below_then HB.out hb3 (lr_ _))
    clear hb3 HC HB e0 e1 e2 e0' e1' e2' u0 u1 u2
    cases r with
    |false=>
     have hR:=HS.out.1 (by first |rfl |trivial)
     subst hR
     go_wp2
     go_ret
     exact⟨rfl,hfin.out⟩
    |true=>
     have HS2:=hd_ (HS.out.2 (by first |rfl |trivial))
     go_wp2
     go_roundg gk'
     case measure=>omega
     case rel=>exact⟨i+1,by go_num,HN.out.1,HN.out.2,hd_ ⟨HS2.out,hfin.out⟩⟩
   ·obtain rfl:n=i:=by omega
    have hltz: ¬(n:Int)< (n:Int):=by omega
    have hR:=sameL_end (by rw[HL.out.1];omega) HI.out.1
    subst hR
    clear hgk
    go_wp2
    go_ret
    exact⟨rfl,HI.out.2⟩
 ·rw[decide_eq_false hnm,Bool.false_and]
  have hne:((n:Int) !=m)=true:=by simp only[bne_iff_ne,ne_eq];omega
  have hne2:(n !=m)=true:=by simpa using hnm
  clear hL hL2 hl hl2 hnm ih
  go_enter Tryz.func233,Tryz.ntmps233
  go_wp2
  go_ret
  exact⟨rfl,br_ _ _⟩
theorem alikeX_of {B C:Nat→Prop}: ∀(N:Nat) (n m:Nd),szN n≤N→∀(v u:Value) (w:World),NdV B w n v→NdV C w m u→
 Calls Tryz.prog 198 #[v,u] w fun e w'=>e=.returned (.bool (sameN n m))∧Below w.heap.size w w'
 |0,.mk t b ks,m,h,_,_,_,_,_=>by unfold szN at h;omega
 |N+1,.mk t b ks,.mk t2 b2 ms,h,v,u,w,hv,hu=>by
  obtain⟨c0,c1,c2,rfl,hc⟩:=hv
  obtain⟨d0,d1,d2,rfl,hd⟩:=hu
  obtain⟨rfl,ht,⟨A,la,ca,rfl,hA1,hA2,hA3,_⟩,K,ck,rfl,hK1,hK2,hK3⟩:=NdC.kidsL hc
  obtain⟨rfl,ht2,⟨A',lb,cb,rfl,hB1,hB2,hB3,_⟩,M,cm,rfl,hM1,hM2,hM3⟩:=NdC.kidsL hd
  unfold szN at h
  have ih: ∀k∈ks,∀(m:Nd) (v u:Value) (w:World),NdV B w k v→NdV C w m u→Calls Tryz.prog 198 #[v,u] w fun e w'=>e=.returned (.bool (sameN k m))∧Below w.heap.size w w':=fun k hk m=>alikeX_of N k m (by have:=szL_mem hk;omega)
  have hsn:sameN (.mk t b ks) (.mk t2 b2 ms)=(decide (t=t2) && decide (b=b2) && (decide (ks.length=ms.length) && sameL ks ms)):=by unfold sameN;rw[Bool.and_assoc];rfl
  rw[hsn]
  obtain⟨n,hn⟩:=nm_ (ks.length)
  obtain⟨m,hm⟩:=nm_ (ms.length)
  rw[hn] at hK1⊢
  rw[hm] at hM1⊢
  obtain⟨W0,hW0⟩:=nm_ ((w.alloc (.cells #[.int .u8 t,.slice A la ca,.slice K n ck] 49)).alloc (.cells #[.int .u8 t2,.slice A' lb cb,.slice M m cm] 49))
  have hb0:Below w.heap.size w W0:=by rw[←hW0];exact(below_new _ _).alloc (by simp) _
  have hz0:W0.heap.size=w.heap.size+2:=by rw[←hW0];simp
  have p0:W0.heap[w.heap.size+1]? =some (.cells #[.int .u8 t2,.slice A' lb cb,.slice M m cm] 49):=by rw[←hW0];exact heap_is (by simp)
  have q0:W0.heap[w.heap.size]? =some (.cells #[.int .u8 t,.slice A la ca,.slice K n ck] 49):=by rw[←hW0,heap_old_ _ _ (by simp)];exact heap_new_ _ _
  obtain⟨x0,x1,x2⟩:=box_nd (br_ _ W0) q0
  obtain⟨y0,y1,y2⟩:=box_nd (br_ _ W0) p0
  have heq:=intc.equal_any A A' la ca lb cb b b2 W0 (hA3.below hb0) (hB3.below hb0)
  have hsb:intc.sameB b b2=decide (b=b2):=by
   by_cases e:b=b2
   ·subst e;rw[decide_eq_true rfl];exact(intc.sameB_iff hA3.2.1 hB3.2.1).2 rfl
   ·rw[decide_eq_false e];exact intc.sameB_no hA3.2.1 hB3.2.1 e
  rw[hsb] at heq
  have hef:=eqFuncX_any B C K M n ck m cm ks ms W0 hn hm (hK3.below hb0) (hM3.below hb0) hK1 hK2 hM1 hM2 ih
  obtain⟨r2,hr2⟩:=nm_ (decide (b=b2))
  obtain⟨r3,hr3⟩:=nm_ ((decide (n=m) && sameL ks ms))
  rw[hr2] at heq
  rw[hr3] at hef
  rw[hr2,hr3]
  have HE:=hd_ heq
  have HF:=hd_ hef
  have HB:=hd_ hb0
  clear heq hef hb0 hr2 hr3 hsb p0 q0 hz0 hn hm ih hsn hA3 hB3 hK3 hM3 hA1 hA2 hB1 hB2 hK1 hK2 hM1 hM2 alikeX_of
  by_cases e1:t=t2
  ·subst e1
   rw[decide_eq_true rfl,Bool.true_and]
   cases r2
   ·go_enter Tryz.func198,Tryz.ntmps198
    go_wp2_with fail
    refine HE.out.mono ?_
    rintro e w1 ⟨rfl,rfl⟩
    go_wp2
    go_ret
    exact⟨rfl,HB.out⟩
   ·go_enter Tryz.func198,Tryz.ntmps198
    go_wp2_with fail
    refine HE.out.mono ?_
    rintro e w1 ⟨rfl,rfl⟩
    go_wp2_with fail
    refine HF.out.mono ?_
    rintro e w2 ⟨rfl,hb2⟩
    have hfin:=hd_ (below_then HB.out hb2 (lr_ _))
    clear hb2 HF HE
    go_wp2
    go_ret
    exact⟨rfl,hfin.out⟩
  ·have e1b:(t==t2)=false:=by simpa using e1
   rw[decide_eq_false e1,Bool.false_and,Bool.false_and]
   go_enter Tryz.func198,Tryz.ntmps198
   go_wp2
   go_ret
   exact⟨rfl,HB.out⟩
end Go.Proofs.YtjanfogifehhmaaGreatDoor.nmc
