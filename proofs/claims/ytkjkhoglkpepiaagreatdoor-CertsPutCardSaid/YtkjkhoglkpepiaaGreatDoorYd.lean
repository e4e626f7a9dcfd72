/- The document's node of a name. The document's node of a prin -/
import Derived.Test.YtkjkhoglkpepiaaGreatDoorYc
set_option maxRecDepth 100000
set_option maxHeartbeats 16000000
set_option linter.unusedVariables false
set_option linter.unusedSimpArgs false
namespace Go.Proofs.YtkjkhoglkpepiaaGreatDoor.nmc
open Go.RowKit tlvc tlvd ndc txc txm intc intm
theorem rnode_any (B:Nat→Prop)(A:Option Addr)(len cap:Nat)(xs:List At)(w:World)(hl:xs.length=len)(hL:Lst atE B w A xs)(hc:len≤cap)(hm:cap≤maxLen)(h8:len≤1000)(hok: ∀a∈xs,objB a.oid=true):
 Calls Tryz.prog 35 #[.slice A len cap] w (NVal (fun g=>w.heap.size≤g) w (nameN xs)):=by
 have h9:cap≤9223372036854775807:=by unfold maxLen at hm;omega
 have mixed:Tryz.prog.follows Departure.mixedOrders=true:=by kernel_rfl
 obtain⟨W0,hW0⟩:=nm_ (w.alloc (.cells #[.int .u8 0,.slice none 0 0,.slice none 0 0] 43))
 have hb0:Below w.heap.size w W0:=by rw[←hW0];exact below_new _ _
 have p0:W0.heap[w.heap.size]? =some (.cells #[.int .u8 0,.slice none 0 0,.slice none 0 0] 43):=by rw[←hW0];exact heap_new_ _ _
 have hz0:W0.heap.size=w.heap.size+1:=by rw[←hW0];simp
 have hY: ∀g,W0.heap.size≤g→w.heap.size+1≤g:=fun g hg=>by omega
 have HL:=hd_ (ai_ hl (ai_ hL hok))
 have HB:=hd_ (ai_ hb0 (ai_ p0 (ai_ hz0 hY)))
 clear hl hL hok hb0 p0 hz0 hm hY
 go_enter Tryz.func35,Tryz.ntmps35
 go_wp2_with fail
 go_loopg [3,4] (len+1) (fun gk s3 s4 wx=>∃(i:Nat) (Av:Option Addr) (cv:Nat),s3=.slice Av i cv∧s4=.int .i64 i∧i≤len∧len - i<gk∧Hid (LInv ndE 43 (fun g=>w.heap.size+1≤g) W0 (.slice Av i cv) ((xs.take i).map attrN) wx))
 case atStart=>exact⟨0,none,0,rfl,rfl,by omega,by omega,hd_ LInv.start⟩
 case round=>
  obtain⟨i,Av,cv,rfl,rfl,hi,hgk,HI⟩:=hrel
  have hbw:=below_then HB.out.1 HI.out.bel (lr_ _)
  by_cases hlt:i<len
  ·have hltz:(i:Int)< (len:Int):=by omega
   obtain⟨gk',rfl⟩: ∃g',gk=g'+1:=⟨gk - 1,by omega⟩
   have HN:=hd_ (ai_ (show i+1≤len from hlt) (show len - (i+1)<gk' by omega))
   have hix:i<xs.length:=by rw[HL.out.1];exact hlt
   obtain⟨g,off,cs,rfl,hg,hcell,hold⟩:=HL.out.2.1.at i hix
   obtain⟨c0,c1,rfl,A0,l0,k0,rfl,rfl,hx1,hx2,hx3,hx4,hx5⟩:=hold
   have hx3:=hx3.below hbw
   have v0:=hcell 0 _ rfl
   have v1:=hcell 1 _ rfl
   rw[show atE.sz=2 from rfl] at v0 v1
   rw[Nat.add_zero] at v0
   have hoid:=fun W (hW:Below wr.heap.size wr W)=>roid_any A0 l0 k0 xs[i].oid W (HL.out.2.2 _ (List.getElem_mem hix)) (hx3.below hW) hx1 hx2
   have htxt:=fun W=>rtext_any 12 xs[i].text W (by omega) hx5
   have hatt:attrN xs[i]=.mk 48 [] [.mk 6 (encO xs[i].oid) [],.mk 12 (bytesI xs[i].text) []]:=rfl
   obtain⟨s,hs⟩:=nm_ (xs[i].text)
   rw[hs] at v1 htxt hatt
   have e0:=cell_on hbw v0
   have e1:=cell_on hbw v1
   have HV:=hd_ (fun W (hW:Below w.heap.size w W)=>(⟨cell_on hW v0,cell_on hW v1⟩:W.cell? ⟨g,off+i*2,none⟩=some (.slice A0 l0 k0)∧W.cell? ⟨g,off+i*2+1,none⟩=some (.string s)))
   clear v0 v1
   obtain⟨n1,hn1⟩:=nm_ (Nd.mk 6 (encO xs[i].oid) [])
   obtain⟨n2,hn2⟩:=nm_ (Nd.mk 12 (bytesI s) [])
   rw[hn1] at hoid hatt
   rw[hn2] at htxt hatt
   have hlk:((xs.take i).map attrN).length=i:=by rw[List.length_map,List.length_take];omega
   have hnx:(xs.take i).map attrN++[.mk 48 [] [n1,n2]]=(xs.take (i+1)).map attrN:=by rw[List.take_succ_eq_append_getElem hix,List.map_append,List.map_cons,List.map_nil,hatt]
   have hfin: ∀(w3 w5:World) (g6:Nat) (d0 d1 d2:Value),Below wr.heap.size wr w3→NdC (fun g=>wr.heap.size≤g) w3 (.mk 48 [] [n1,n2]) d0 d1 d2→Below w3.heap.size w3 w5→wr.heap.size≤g6→w5.heap[g6]? =some (.cells #[d0,d1,d2] 43)→
    ∃A c w7,(Builtin.append_ #[41,41] 41 #[.slice Av i cv,.slice (some ⟨g6,0,none⟩) 1 1]).run Tryz.prog w5=.ok (.slice A (i+1) c) w7∧LInv ndE 43 (fun g=>w.heap.size+1≤g) W0 (.slice A (i+1) c) ((xs.take (i+1)).map attrN) w7:=fun w3 w5 g6 d0 d1 d2 h3 hn h5 hg6 hbox=>by
    have hlo:=HI.out.bel.size
    have hz0:=HB.out.2.2.1
    obtain⟨A,c,w7,hr,hI⟩:=HI.out.push Tryz.infN HB.out.2.2.2 (below_then h3 h5 (lr_ _)) (x:=.mk 48 [] [n1,n2]) (news:=[d0,d1,d2]) ⟨d0,d1,d2,rfl,NdC.mono (fun g hg=>⟨by omega,.inr hg⟩) _ _ _ _ (NdC.below h5 _ _ _ _ hn)⟩ hg6 hbox (fun j u hu=>by
     match j,hu with
     |0,hu=>exact hu
     |1,hu=>exact hu
     |2,hu=>exact hu
     |j+3,hu=>simp at hu) (by rw[hlk];omega) (by rw[hlk];unfold maxLen;omega)
    rw[hlk] at hr hI
    rw[hnx] at hI
    exact⟨A,c,w7,hr,hI⟩
   have HF:=hd_ hfin
   have HO:=hd_ hoid
   have HT:=hd_ htxt
   clear hfin hoid htxt hatt hn1 hn2 hs hlk hnx hx1 hx2 hx3 hx4 hx5 hcell hgk hbw
   go_wp2_with fail
   try dsimp only
   refine wp_region_noPanic ?_
   refine wp_region_held_drew (S:=fun wx:World=>wx.cell? ⟨g,off+i*2,none⟩=some (.slice A0 l0 k0)∧wx.cell? ⟨g,off+i*2+1,none⟩=some (.string s)) mixed ⟨e0,e1⟩ (fun hHeld=>?_)
   have hbd:=below_drew wr
   obtain⟨wd,hwd⟩:=nm_ (wr.drew)
   rw[hwd] at hHeld hbd⊢
   clear hwd
   refine tk_ (i:=0) (z:=?_)
   refine tk_ (i:=1) (z:=?_)
   refine tk_ (i:=2) (z:=?_)
   refine tk_ (i:=3) (z:=?_)
   refine tk_ (i:=4) (z:=?_)
   refine tk_ (i:=5) (z:=?_)
   refine tk_ (i:=7) (z:=?_)
   refine tk_ (i:=8) (z:=?_)
   refine tk_ (i:=9) (z:=?_)
   refine tk_ (i:=10) (z:=?_)
   refine tk_ (i:=11) (z:=?_)
   refine on_ (i:=6) (z:=fun KK hKK=>?_)
   go_simp
   refine(HO.out _ hbd).mono ?_
   rintro e w2 ⟨h1b,t1,A1,a1,b1,K1,m1,k1,rfl,h1n⟩
   dsimp only
   have hb2:=below_then hbd h1b (lr_ _)
   refine hKK.out _ _ ⟨cell_on hb2 e0,cell_on hb2 e1⟩ (fun hHeld=>?_)
   clear hKK KK
   try simp only[Act.put,qa_,qb_,qc_]
   refine on_ (i:=12) (z:=fun KK hKK=>?_)
   go_simp
   refine(HT.out _).mono ?_
   rintro e w3 ⟨h2b,t2,A2,a2,b2,K2,m2,k2,rfl,h2n⟩
   dsimp only
   have hb3:=below_then hb2 h2b (lr_ _)
   refine hKK.out _ _ ⟨cell_on hb3 e0,cell_on hb3 e1⟩ (fun hHeld=>?_)
   clear hKK KK
   try simp only[Act.put,qa_,qb_,qc_]
   have q1:NdC (fun g=>wr.heap.size≤g) w3 n1 _ _ _:=NdC.mono (fun g hg=>Nat.le_trans hbd.size hg) _ _ _ _ (NdC.below h2b _ _ _ _ h1n)
   have q2:NdC (fun g=>wr.heap.size≤g) w3 n2 _ _ _:=NdC.mono (fun g hg=>Nat.le_trans hb2.size hg) _ _ _ _ h2n
   have hz3:=hb3.size
   refine on_ (i:=13) (z:=fun KK hKK=>?_)
   go_simp
   have hb4:=below_then hb3 (below_new w3 (.cells #[.int .u8 t1,.slice A1 a1 b1,.slice K1 m1 k1,.int .u8 t2,.slice A2 a2 b2,.slice K2 m2 k2] 43)) (lr_ _)
   refine hKK.out _ _ ⟨cell_on hb4 e0,cell_on hb4 e1⟩ (fun hHeld=>?_)
   clear hKK KK
   try simp only[Act.put,qa_,qb_,qc_]
   have p4:=heap_new_ w3 (.cells #[.int .u8 t1,.slice A1 a1 b1,.slice K1 m1 k1,.int .u8 t2,.slice A2 a2 b2,.slice K2 m2 k2] 43)
   have hcall:=rseq_any (fun g=>wr.heap.size≤g) 48 (some ⟨w3.heap.size,0,none⟩) 2 2 [n1,n2] (w3.alloc (.cells #[.int .u8 t1,.slice A1 a1 b1,.slice K1 m1 k1,.int .u8 t2,.slice A2 a2 b2,.slice K2 m2 k2] 43)) (by omega) rfl (lr_ _) (by unfold maxLen;decide) (two_nodes p4 hz3 (NdC.below (below_new _ _) _ _ _ _ q1) (NdC.below (below_new _ _) _ _ _ _ q2))
   refine on_ (i:=14) (z:=fun KK hKK=>?_)
   go_simp
   refine hcall.mono ?_
   rintro e w5 ⟨h5b,t3,A3,a3,b3,K3,m3,k3,rfl,h5n⟩
   dsimp only
   have hb5:=below_then hb4 h5b (lr_ _)
   refine hKK.out _ _ ⟨cell_on hb5 e0,cell_on hb5 e1⟩ (fun hHeld=>?_)
   clear hKK KK
   try simp only[Act.put,qa_,qb_,qc_]
   refine on_ (i:=15) (z:=fun KK hKK=>?_)
   go_simp
   have hb6:=below_then hb5 (below_new w5 (.cells #[.int .u8 t3,.slice A3 a3 b3,.slice K3 m3 k3] 43)) (lr_ _)
   refine hKK.out _ _ ⟨cell_on hb6 e0,cell_on hb6 e1⟩ (fun hHeld=>?_)
   clear hKK KK
   try simp only[Act.put,qa_,qb_,qc_]
   obtain⟨A7,c7,w7,hrun,hI7⟩:=HF.out w5 (w5.alloc (.cells #[.int .u8 t3,.slice A3 a3 b3,.slice K3 m3 k3] 43)) w5.heap.size _ _ _ hb5 h5n (below_new _ _) hb5.size (heap_new_ _ _)
   have HI7:=hd_ hI7
   have hb7:=hI7.bel
   have hcb:=HV.out w7 (below_then HB.out.1 hb7 (lr_ _))
   refine on_ (i:=16) (z:=fun KK hKK=>?_)
   refine step_run rfl (.tmp 11) (.tmp 26) 41 rfl _ _ _ (by first |rfl |simp[Act.eval,Act.put]) (by first |rfl |simp[Act.eval,Act.put]) hrun (hKK.out _ _ hcb (fun hHeld=>?_))
   clear hKK KK
   try simp only[Act.put,qa_,qb_,qc_]
   refine tk_ (i:=17) (z:=?_)
   refine wpAnyH_done (by kernel_rfl) ?_ _
   refine NoPanic.normal ?_
   clear hI7 hb7 hcb hrun hb6 hb5 hb4 hb3 h5n h5b p4 hcall hHeld
   go_wp2_with fail
   go_roundg gk'
   case measure=>omega
   case rel=>exact⟨i+1,A7,c7,rfl,by go_num,HN.out.1,HN.out.2,HI7⟩
  ·obtain rfl:len=i:=by omega
   have hltz: ¬(len:Int)< (len:Int):=by omega
   have hlk:((xs.take len).map attrN).length=len:=by rw[List.length_map,List.length_take];have:=HL.out.1;omega
   obtain⟨A2,c2,e2,hc1,hc2,hLn⟩:=HI.out.row.lst HB.out.2.2.2
   rw[hlk] at e2 hc1
   simp only[Value.slice.injEq] at e2
   obtain⟨rfl,_,rfl⟩:=e2
   have hcall:=rseq_any (fun g=>w.heap.size+1≤g) 48 Av len cv _ wr (by omega) hlk hc1 hc2 hLn
   have hnm:Nd.mk 48 [] ((xs.take len).map attrN)=nameN xs:=by rw[List.take_of_length_le (by rw[HL.out.1];omega)];rfl
   rw[hnm] at hcall
   have HC:=hd_ hcall
   have HW:=hd_ (ai_ hbw ((HI.out.bel.block _ (by rw[HB.out.2.2.1];omega)).trans HB.out.2.1))
   clear hcall hnm hLn hbw hlk hc1 hc2 hgk
   go_wp2_with fail
   refine HC.out.mono ?_
   rintro e w2 ⟨hb2,t,A5,la5,ca5,K5,lk5,ck5,rfl,hn⟩
   have p2:=(hb2.block _ (Array.getElem?_eq_some_iff.1 HW.out.2).1).trans HW.out.2
   obtain⟨r0,r1,r2,hB⟩:=res3 (y0:=.int .u8 t) (y1:=.slice A5 la5 ca5) (y2:=.slice K5 lk5 ck5) (lr_ _) (below_then HW.out.1 hb2 (lr_ _)) p2
   have hn2:=res3_nd (b:=w.heap.size) (y0:=.int .u8 t) (y1:=.slice A5 la5 ca5) (y2:=.slice K5 lk5 ck5) (fun g hg=>by omega) hn
   have f0:=fh_ p2 0
   have f1:=fh_ p2 1
   have f2:=fh_ p2 2
   have s0:=(ch_ p2 0).trans rfl
   have s1:=(ch_ p2 1).trans rfl
   have s2:=(ch_ p2 2).trans rfl
   have HE:=hd_ (ai_ hB (NdC.mono (B':=fun g=>w.heap.size≤g) (fun g hg=>by omega) _ _ _ _ hn2))
   clear hB hn hn2 p2 hb2 HC HW
   go_wp2_with fail
   refine bodyPost_ret (v:=.agg #[.int .u8 t,.slice A5 la5 ca5,.slice K5 lk5 ck5]) ?_ rfl ⟨HE.out.1,_,_,_,_,_,_,_,rfl,HE.out.2⟩
   simp[results,Tryz.results35,go_sem,r0,r1,r2]
end Go.Proofs.YtkjkhoglkpepiaaGreatDoor.nmc
namespace Go.Proofs.YtkjkhoglkpepiaaGreatDoor.nmc
open Go.RowKit tlvc tlvd ndc txc txm intc intm
theorem rprincNode_any (B:Nat→Prop)(p:Pr)(c0 c1:Value)(w:World)(hp:PrC B w p c0 c1)(h8:p.names.length≤1000):
 Calls Tryz.prog 84 #[.agg #[c0,c1]] w (NVal (fun g=>w.heap.size≤g) w (princN p)):=by
 obtain⟨A,cap,rfl,rfl,hc,hm,hL,hs⟩:=hp
 have h9:cap≤9223372036854775807:=by unfold maxLen at hm;omega
 have hpn:princN p=.mk 48 [] [wordN p.realm,.mk 48 [] (p.names.map wordN)]:=rfl
 obtain⟨len,hlen⟩:=nm_ (p.names.length)
 obtain⟨s,hs0⟩:=nm_ (p.realm)
 obtain⟨xs,hxs⟩:=nm_ (p.names)
 rw[hxs,hs0] at hpn
 rw[hxs] at hlen hL hc h8⊢
 rw[hs0] at hs⊢
 rw[hpn]
 rw[hlen] at hc h8⊢
 obtain⟨W0,hW0⟩:=nm_ ((w.alloc (.cells #[.string s,.slice A len cap] 117)).alloc (.cells #[.int .u8 0,.slice none 0 0,.slice none 0 0] 43))
 have hb0:Below w.heap.size w W0:=by rw[←hW0];exact(below_new _ _).alloc (by simp) _
 have p0:W0.heap[w.heap.size+1]? =some (.cells #[.int .u8 0,.slice none 0 0,.slice none 0 0] 43):=by rw[←hW0];exact heap_is (by simp)
 have q0:W0.heap[w.heap.size]? =some (.cells #[.string s,.slice A len cap] 117):=by rw[←hW0,heap_old_ _ _ (by simp)];exact heap_new_ _ _
 have hz0:W0.heap.size=w.heap.size+2:=by rw[←hW0];simp
 have hY: ∀g,W0.heap.size≤g→w.heap.size+2≤g:=fun g hg=>by omega
 have b0:W0.cell? ⟨w.heap.size,0,none⟩=some (.string s):=(ch_ q0 _).trans rfl
 have b1:W0.cell? ⟨w.heap.size,1,none⟩=some (.slice A len cap):=(ch_ q0 _).trans rfl
 have hbx: ∀W,Below W0.heap.size W0 W→W.cell? ⟨w.heap.size,0,none⟩=some (.string s)∧W.cell? ⟨w.heap.size,1,none⟩=some (.slice A len cap)∧Below w.heap.size w W∧W.heap[w.heap.size+1]? =some (.cells #[.int .u8 0,.slice none 0 0,.slice none 0 0] 43):=fun W hW=>⟨cell_on hW b0,cell_on hW b1,below_then hb0 hW (lr_ _),(hW.block _ (by omega)).trans p0⟩
 have HX:=hd_ hbx
 have HL:=hd_ (ai_ hlen hL)
 have HY:=hd_ (ai_ hY hz0)
 have HS:=hd_ hs
 have hst: ∀W,(w.alloc (.cells #[.string s,.slice A len cap] 117)).alloc (.cells #[.int .u8 0,.slice none 0 0,.slice none 0 0] 43)=W→W=W0:=fun W h=>by rw[←h,hW0]
 clear hbx hlen hL hY hz0 hs p0 q0 hb0 hpn hs0 hxs hm b0 b1 hst
 go_enter Tryz.func84,Tryz.ntmps84
 go_wp2_with fail
 go_loopg [3,4] (len+1) (fun gk s3 s4 wx=>∃(i:Nat) (Av:Option Addr) (cv:Nat),s3=.slice Av i cv∧s4=.int .i64 i∧i≤len∧len - i<gk∧Hid (LInv ndE 43 (fun g=>w.heap.size+2≤g) W0 (.slice Av i cv) ((xs.take i).map wordN) wx))
 case atStart=>exact⟨0,none,0,rfl,rfl,by omega,by omega,hd_ LInv.start⟩
 case round=>
  clear hW0
  obtain⟨i,Av,cv,rfl,rfl,hi,hgk,HI⟩:=hrel
  obtain⟨b0,b1,hBw,p1⟩:=HX.out wr HI.out.bel
  have HB:=hd_ (ai_ hBw p1)
  clear hBw p1
  by_cases hlt:i<len
  ·have hltz:(i:Int)< (len:Int):=by omega
   obtain⟨gk',rfl⟩: ∃g',gk=g'+1:=⟨gk - 1,by omega⟩
   have HN:=hd_ (ai_ (show i+1≤len from hlt) (show len - (i+1)<gk' by omega))
   have hix:i<xs.length:=by rw[HL.out.1];exact hlt
   obtain⟨g,off,cs,rfl,hg,hcell,hold⟩:=(HL.out.2.below HB.out.1).at i hix
   obtain⟨rfl,hx5⟩:=hold
   have e0:=hcell 0 _ rfl
   rw[show stE.sz=1 from rfl] at e0
   rw[Nat.add_zero,Nat.mul_one] at e0
   have htxt:=rtext_any 27 xs[i] wr (by omega) hx5
   obtain⟨n,hn⟩:=nm_ (Nd.mk 27 (bytesI xs[i]) [])
   rw[hn] at htxt
   have hlk:((xs.take i).map wordN).length=i:=by rw[List.length_map,List.length_take];omega
   have hnx:(xs.take i).map wordN++[n]=(xs.take (i+1)).map wordN:=by rw[List.take_succ_eq_append_getElem hix,List.map_append,List.map_cons,List.map_nil,←hn];rfl
   obtain⟨tx,htx⟩:=nm_ (xs[i])
   rw[htx] at e0 htxt
   have hfin: ∀(w3 w5:World) (g6:Nat) (d0 d1 d2:Value),Below wr.heap.size wr w3→NdC (fun g=>wr.heap.size≤g) w3 n d0 d1 d2→Below w3.heap.size w3 w5→wr.heap.size≤g6→w5.heap[g6]? =some (.cells #[d0,d1,d2] 43)→
    ∃A c w7,(Builtin.append_ #[41,41] 41 #[.slice Av i cv,.slice (some ⟨g6,0,none⟩) 1 1]).run Tryz.prog w5=.ok (.slice A (i+1) c) w7∧LInv ndE 43 (fun g=>w.heap.size+2≤g) W0 (.slice A (i+1) c) ((xs.take (i+1)).map wordN) w7:=fun w3 w5 g6 d0 d1 d2 h3 hn h5 hg6 hbox=>by
    have hlo:=HI.out.bel.size
    have hz0:=HY.out.2
    obtain⟨A,c,w7,hr,hI⟩:=HI.out.push Tryz.infN HY.out.1 (below_then h3 h5 (lr_ _)) (x:=n) (news:=[d0,d1,d2]) ⟨d0,d1,d2,rfl,NdC.mono (fun g hg=>⟨by omega,.inr hg⟩) _ _ _ _ (NdC.below h5 _ _ _ _ hn)⟩ hg6 hbox (fun j u hu=>by
     match j,hu with
     |0,hu=>exact hu
     |1,hu=>exact hu
     |2,hu=>exact hu
     |j+3,hu=>simp at hu) (by rw[hlk];omega) (by rw[hlk];unfold maxLen;omega)
    rw[hlk] at hr hI
    rw[hnx] at hI
    exact⟨A,c,w7,hr,hI⟩
   have HF:=hd_ hfin
   have HT:=hd_ htxt
   clear hfin htxt hn hlk hnx hx5 hcell hgk htx
   go_wp2_with fail
   refine HT.out.mono ?_
   rintro e w3 ⟨hb3,t,A5,la5,ca5,K5,lk5,ck5,rfl,hn⟩
   obtain⟨A7,c7,w7,hrun,hI7⟩:=HF.out w3 (w3.alloc (.cells #[.int .u8 t,.slice A5 la5 ca5,.slice K5 lk5 ck5] 43)) w3.heap.size _ _ _ hb3 hn (below_new _ _) hb3.size (heap_new_ _ _)
   have HI7:=hd_ hI7
   clear hI7 hb3 hn HT HF e0 b0 b1
   go_wp2_with (at_builtin;refine wpl_append rfl (.tmp 12) (.tmp 19) 41 rfl _ _ _ rfl rfl hrun ?_)
   clear hrun
   go_wp2
   go_roundg gk'
   case measure=>omega
   case rel=>exact⟨i+1,A7,c7,rfl,by go_num,HN.out.1,HN.out.2,HI7⟩
  ·obtain rfl:len=i:=by omega
   have hltz: ¬(len:Int)< (len:Int):=by omega
   have hlk:((xs.take len).map wordN).length=len:=by rw[List.length_map,List.length_take];have:=HL.out.1;omega
   obtain⟨A2,c2,e2,hc1,hc2,hLn⟩:=HI.out.row.lst HY.out.1
   rw[hlk] at e2 hc1
   simp only[Value.slice.injEq] at e2
   obtain⟨rfl,_,rfl⟩:=e2
   have htxt:=rtext_any 27 s wr (by omega) HS.out
   have hseq:=fun W (hW:Below wr.heap.size wr W)=>rseq_any (fun g=>w.heap.size+2≤g) 48 Av len cv _ W (by omega) hlk hc1 hc2 (hLn.below hW)
   have hnm:(xs.take len).map wordN=xs.map wordN:=by rw[List.take_of_length_le (by rw[HL.out.1];omega)]
   rw[hnm] at hseq
   rw[show Nd.mk 27 (bytesI s) []=wordN s from rfl] at htxt
   have HT:=hd_ htxt
   have HQ:=hd_ hseq
   have HZ:=hd_ (show w.heap.size+2≤wr.heap.size by have:=HI.out.bel.size;rw[HY.out.2] at this;exact this)
   clear htxt hseq hnm hLn hlk hc1 hc2 hgk
   go_wp2_with fail
   refine HT.out.mono ?_
   rintro e w2 ⟨hb2,t1,A1,l1,k1,K1,m1,n1,rfl,hn1⟩
   have HK:=hd_ (HQ.out w2 hb2)
   have H1:=hd_ (ai_ hn1 hb2)
   clear hn1 hb2 HT HQ
   go_wp2_with fail
   refine HK.out.mono ?_
   rintro e w3 ⟨hb3,t2,A2,l2,k2,K2,m2,n2,rfl,hn2⟩
   obtain⟨W4,hW4⟩:=nm_ (w3.alloc (.cells #[.int .u8 t1,.slice A1 l1 k1,.slice K1 m1 n1,.int .u8 t2,.slice A2 l2 k2,.slice K2 m2 n2] 43))
   have hb34:Below w3.heap.size w3 W4:=by rw[←hW4];exact below_new _ _
   have p4:W4.heap[w3.heap.size]? =some (.cells #[.int .u8 t1,.slice A1 l1 k1,.slice K1 m1 n1,.int .u8 t2,.slice A2 l2 k2,.slice K2 m2 n2] 43):=by rw[←hW4];exact heap_new_ _ _
   have z2:=H1.out.2.size
   have z3:=hb3.size
   have zw:=HZ.out
   have hlast:=rseq_any (fun g=>w.heap.size+2≤g) 48 (some ⟨w3.heap.size,0,none⟩) 2 2 [wordN s,.mk 48 [] (xs.map wordN)] W4 (by omega) rfl (lr_ _) (by unfold maxLen;decide)
    (two_nodes p4 (by omega) (NdC.mono (fun g hg=>by omega) _ _ _ _ (NdC.below hb34 _ _ _ _ (NdC.below hb3 _ _ _ _ H1.out.1))) (NdC.below hb34 _ _ _ _ hn2))
   have HK2:=hd_ hlast
   have hB4:=below_then (below_then H1.out.2 hb3 (lr_ _)) hb34 (lr_ _)
   have H4:=hd_ (ai_ (below_then HB.out.1 hB4 (lr_ _)) ((hB4.block _ (by omega)).trans HB.out.2))
   clear hlast hB4 hb34 hb3 hn2 p4 z2 z3 zw HK H1
   go_wp2_with fail
   refine HK2.out.mono ?_
   rintro e w5 ⟨hb5,t,A5,la5,ca5,K5,lk5,ck5,rfl,hn⟩
   have p2:=(hb5.block _ (Array.getElem?_eq_some_iff.1 H4.out.2).1).trans H4.out.2
   obtain⟨r0,r1,r2,hB⟩:=res3 (y0:=.int .u8 t) (y1:=.slice A5 la5 ca5) (y2:=.slice K5 lk5 ck5) (Nat.le_succ _) (below_then H4.out.1 hb5 (lr_ _)) p2
   have hn2:=res3_nd (b:=w.heap.size+1) (y0:=.int .u8 t) (y1:=.slice A5 la5 ca5) (y2:=.slice K5 lk5 ck5) (fun g hg=>by omega) hn
   have f0:=fh_ p2 0
   have f1:=fh_ p2 1
   have f2:=fh_ p2 2
   have s0:=(ch_ p2 0).trans rfl
   have s1:=(ch_ p2 1).trans rfl
   have s2:=(ch_ p2 2).trans rfl
   have HE:=hd_ (ai_ hB (NdC.mono (B':=fun g=>w.heap.size≤g) (fun g hg=>by omega) _ _ _ _ hn2))
   clear hB hn hn2 p2 hb5 HK2 H4 b0 hW4
   go_wp2_with fail
   refine bodyPost_ret (v:=.agg #[.int .u8 t,.slice A5 la5 ca5,.slice K5 lk5 ck5]) ?_ rfl ⟨HE.out.1,_,_,_,_,_,_,_,rfl,HE.out.2⟩
   simp[results,Tryz.results84,go_sem,r0,r1,r2]
theorem nameF_of (l:List At):nameF l=if rightN l=true then some (nameN l) else none:=rfl
theorem PrC.below {B:Nat→Prop}{w w':World}{p:Pr}{c0 c1:Value}(h:PrC B w p c0 c1)(hb:Below w.heap.size w w'):PrC B w' p c0 c1:=by
 obtain⟨A,c,h0,h1,h2,h3,h4,h5⟩:=h
 exact⟨A,c,h0,h1,h2,h3,h4.below hb,h5⟩
theorem princF_of (p:Pr):princF p=if rightP p=true then some (princN p) else none:=rfl
end Go.Proofs.YtkjkhoglkpepiaaGreatDoor.nmc
