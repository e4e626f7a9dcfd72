/- Names' Get and GetPrinc: what they tell lies in new memory.  -/
import Derived.Test.YtjanfogifehhmaaGreatDoorAd
import Derived.Deep.RegionHeld3
set_option maxRecDepth 100000
set_option maxHeartbeats 8000000
set_option linter.unusedVariables false
set_option linter.unusedSimpArgs false
namespace Go.Proofs.YtjanfogifehhmaaGreatDoor.nmc
open Go.RowKit tlvc tlvd ndc txc txm intc intm
theorem OdC.mono {S S':Nat→Prop}{w:World}{o:Od}{c0 c1 c2:Value}(hS: ∀g,S g→S' g)(h:OdC S w o c0 c1 c2):OdC S' w o c0 c1 c2:=⟨h.1.mono hS,h.2.1,h.2.2.mono hS⟩
def PVal (S:Nat→Prop)(w:World)(p:Pr)(e:Ending)(w':World):Prop:=
 Below w.heap.size w w'∧∃A c,e=.returned (.agg #[.string p.realm,.slice A p.names.length c])∧p.names.length≤c∧c≤maxLen∧Lst stE S w' A p.names∧p.realm.size≤maxLen
def OVal (S:Nat→Prop)(w:World)(o:Od)(e:Ending)(w':World):Prop:=
 Below w.heap.size w w'∧∃A l c B m n,e=.returned (.agg #[.slice A l c,.bool o.crit,.slice B m n])∧OdC S w' o (.slice A l c) (.bool o.crit) (.slice B m n)
theorem Tryz.infoOdd:(Tryz.prog.info? 109).map (fun i=>(i.zero,i.size,i.bytes))=some (some (.agg #[.slice none 0 0,.bool false,.slice none 0 0]),3,56):=by kernel_rfl
theorem Tryz.infoInts:(Tryz.prog.info? 101).map (fun i=>(i.zero,i.size,i.bytes))=some (some (.slice none 0 0),1,24):=by kernel_rfl
theorem Tryz.infoName:(Tryz.prog.info? 23).map (fun i=>(i.zero,i.size,i.bytes))=some (some (.slice none 0 0),1,24):=by kernel_rfl
theorem Tryz.infoPrinc:(Tryz.prog.info? 107).map (fun i=>(i.zero,i.size,i.bytes))=some (some (.agg #[.string ⟨#[]⟩,.slice none 0 0]),2,40):=by kernel_rfl
theorem Tryz.infO:Inf Tryz.prog 28 109 odE.sz 56:=by
 obtain⟨i0,hi,hz0,hz1,hz2⟩:=info_parts Tryz.infoOdd
 exact⟨Tryz.underlying28,i0,_,hi,hz0,hz1,hz2,rfl⟩
theorem Tryz.infI:Inf Tryz.prog 25 101 inE.sz 24:=by
 obtain⟨i0,hi,hz0,hz1,hz2⟩:=info_parts Tryz.infoInts
 exact⟨Tryz.underlying25,i0,_,hi,hz0,hz1,hz2,rfl⟩
theorem Tryz.infNm:Inf Tryz.prog 27 23 nmE.sz 24:=by
 obtain⟨i0,hi,hz0,hz1,hz2⟩:=info_parts Tryz.infoName
 exact⟨Tryz.underlying27,i0,_,hi,hz0,hz1,hz2,rfl⟩
theorem Tryz.infP:Inf Tryz.prog 26 107 prE.sz 40:=by
 obtain⟨i0,hi,hz0,hz1,hz2⟩:=info_parts Tryz.infoPrinc
 exact⟨Tryz.underlying26,i0,_,hi,hz0,hz1,hz2,rfl⟩
theorem eachOdN (B:Nat→Prop)(G:Od→Nd)(f:FuncId)(A:Option Addr)(len cap:Nat)(xs:List (Od))(w:World)(hl:xs.length=len)(hL:Lst odE B w A xs)(hc:len≤cap)(hm:cap≤maxLen)(hlen:len≤1000)
 (hen: ∀args w,(callFunc f args).run Tryz.prog w=.ok (.enter f args) w)
 (hf: ∀x∈xs,∀(W:World),Below w.heap.size w W→∀c0 c1 c2:Value,odE.hold B W x [c0,c1,c2]→Calls Tryz.prog f #[.agg #[c0,c1,c2]] W (NVal (fun g=>W.heap.size≤g) W (G x))):
 Calls Tryz.prog 80 #[.slice A len cap,.func (.func f) #[] #[]] w (LVal ndE (fun g=>w.heap.size≤g) w (xs.map G)):=by
 have h9:cap≤9223372036854775807:=by unfold maxLen at hm;omega
 obtain⟨TL,hTL⟩:=nm_ (xs.map G)
 have hTL3:TL.length=len:=by rw[←hTL,List.length_map,hl]
 have hlk: ∀i,i≤len→((xs.take i).map G).length=i:=fun i hi=>by rw[List.length_map,List.length_take];omega
 rw[hTL]
 unfold LVal
 rw[hTL3]
 have HTL:=hd_ hTL
 have HL:=hd_ (ai_ hl (ai_ hL (ai_ hlk hf)))
 have HK:=hd_ hlen
 clear hl hL hlk hf hTL hTL3 hm hlen
 go_enter Tryz.func80,Tryz.ntmps80
 go_wp2_with fail
 go_loopg [5,10] (len+1) (fun gk s5 s10 wx=>∃(i:Nat) (Av:Option Addr) (cv:Nat),s5=.slice Av i cv∧s10=.int .i64 i∧i≤len∧len - i<gk∧Hid (LInv ndE 49 (fun g=>w.heap.size≤g) w (.slice Av i cv) ((xs.take i).map G) wx))
 case atStart=>exact⟨0,none,0,rfl,rfl,by omega,by omega,hd_ LInv.start⟩
 case round=>
  obtain⟨i,Av,cv,rfl,rfl,hi,hgk,HI⟩:=hrel
  by_cases hlt:i<len
  ·have hltz:(i:Int)< (len:Int):=by omega
   obtain⟨gk',rfl⟩: ∃g',gk=g'+1:=⟨gk - 1,by omega⟩
   have HN:=hd_ (ai_ (show i+1≤len from hlt) (show len - (i+1)<gk' by omega))
   have hix:i<xs.length:=by rw[HL.out.1];exact hlt
   obtain⟨g,off,cs,rfl,_,hcell,d0,d1,d2,rfl,⟨A1,l1,k1,rfl,hi0⟩,rfl,A2,l2,k2,rfl,hi2⟩:=(HL.out.2.1.below HI.out.bel).at i hix
   have e0:=hcell 0 _ rfl
   have e1:=hcell 1 _ rfl
   have e2:=hcell 2 _ rfl
   rw[show odE.sz=3 from rfl] at e0 e1 e2
   rw[Nat.add_zero] at e0
   obtain⟨b1,hb1⟩:=nm_ ((xs[i]).crit)
   rw[hb1] at e1
   clear hcell
   have hbx:Below wr.heap.size wr (wr.alloc (.cells #[.slice A1 l1 k1,.bool b1,.slice A2 l2 k2] 109)):=below_new _ _
   have hcall:=HL.out.2.2.2 xs[i] (List.getElem_mem hix) _ (below_then HI.out.bel hbx (lr_ _)) _ _ _ (El.below (E:=odE) ⟨_,_,_,rfl,⟨A1,l1,k1,rfl,hi0⟩,by rw[hb1],A2,l2,k2,rfl,hi2⟩ hbx)
   have hnx:(xs.take i).map G++[G xs[i]]=(xs.take (i+1)).map G:=by rw[List.take_succ_eq_append_getElem hix,List.map_append,List.map_cons,List.map_nil]
   have hlk:=HL.out.2.2.1 i hi
   have HC:=hd_ hcall
   have HB:=hd_ hbx
   clear hcall hbx hgk hi0 hi2 hb1
   go_wp2_with fail
   refine HC.out.mono ?_
   rintro e w2 ⟨hb2,t3,A3,l3,c3,K3,m3,n3,rfl,hold⟩
   have h0:=HB.out.size
   have hwz:=HI.out.bel.size
   have hb3:=below_then HB.out hb2 (lr_ _)
   have hk1000:=HK.out
   obtain⟨A7,c7,w7,hrun,hI7⟩:=HI.out.push Tryz.infN (fun g hg=>hg) (below_then hb3 (below_new w2 (.cells #[.int .u8 t3,.slice A3 l3 c3,.slice K3 m3 n3] 49)) (lr_ _)) (x:=G xs[i]) (news:=[.int .u8 t3,.slice A3 l3 c3,.slice K3 m3 n3]) (⟨_,_,_,rfl,NdC.mono (fun g hg=>(fun g (hg:(wr.alloc (.cells #[.slice A1 l1 k1,.bool b1,.slice A2 l2 k2] 109)).heap.size≤g)=>(⟨Nat.le_trans hwz (Nat.le_trans h0 hg),.inr (Nat.le_trans h0 hg)⟩:w.heap.size≤g∧(g<w.heap.size∨wr.heap.size≤g))) g hg) _ _ _ _ (NdC.below (below_new _ _) _ _ _ _ hold)⟩) (g1:=w2.heap.size) hb3.size (heap_new_ _ _) (fun j u hu=>by
    simpa using hu) (by rw[hlk];omega) (by rw[hlk];unfold maxLen;omega)
   rw[hlk] at hrun hI7
   rw[hnx] at hI7
   have HI7:=hd_ hI7
   clear hI7 hnx hlk e0 e1 e2 HC HB hb2 hb3 hold h0 hwz hk1000
   go_wp2_with (at_builtin;refine wpl_append rfl (.tmp 14) (.tmp 18) 47 rfl _ _ _ rfl rfl hrun ?_)
   clear hrun
   go_wp2
   go_roundg gk'
   case measure=>omega
   case rel=>exact⟨i+1,A7,c7,rfl,by go_num,HN.out.1,HN.out.2,HI7⟩
  ·obtain rfl:len=i:=by omega
   have hltz: ¬(len:Int)< (len:Int):=by omega
   obtain⟨A2,c2,e2,h1,h2,hLn⟩:=HI.out.row.lst (fun g hg=>hg)
   have hlk:=HL.out.2.2.1 len (lr_ _)
   rw[hlk] at e2 h1
   simp only[Value.slice.injEq] at e2
   obtain⟨rfl,_,rfl⟩:=e2
   rw[List.take_of_length_le (by rw[HL.out.1];exact lr_ _),HTL.out] at hLn
   have HF:=hd_ (ai_ HI.out.bel (ai_ h1 (ai_ h2 hLn)))
   clear h1 h2 hLn hgk hlk
   go_wp2
   go_ret
   exact⟨HF.out.1,Av,cv,rfl,HF.out.2.1,HF.out.2.2.1,HF.out.2.2.2⟩
theorem eachInN (B:Nat→Prop)(G:List Int→Nd)(f:FuncId)(A:Option Addr)(len cap:Nat)(xs:List (List Int))(w:World)(hl:xs.length=len)(hL:Lst inE B w A xs)(hc:len≤cap)(hm:cap≤maxLen)(hlen:len≤1000)
 (hen: ∀args w,(callFunc f args).run Tryz.prog w=.ok (.enter f args) w)
 (hf: ∀x∈xs,∀(W:World),Below w.heap.size w W→∀c0:Value,inE.hold B W x [c0]→Calls Tryz.prog f #[c0] W (NVal (fun g=>W.heap.size≤g) W (G x))):
 Calls Tryz.prog 151 #[.slice A len cap,.func (.func f) #[] #[]] w (LVal ndE (fun g=>w.heap.size≤g) w (xs.map G)):=by
 have h9:cap≤9223372036854775807:=by unfold maxLen at hm;omega
 obtain⟨TL,hTL⟩:=nm_ (xs.map G)
 have hTL3:TL.length=len:=by rw[←hTL,List.length_map,hl]
 have hlk: ∀i,i≤len→((xs.take i).map G).length=i:=fun i hi=>by rw[List.length_map,List.length_take];omega
 rw[hTL]
 unfold LVal
 rw[hTL3]
 have HTL:=hd_ hTL
 have HL:=hd_ (ai_ hl (ai_ hL (ai_ hlk hf)))
 have HK:=hd_ hlen
 clear hl hL hlk hf hTL hTL3 hm hlen
 go_enter Tryz.func151,Tryz.ntmps151
 go_wp2_with fail
 go_loopg [5,10] (len+1) (fun gk s5 s10 wx=>∃(i:Nat) (Av:Option Addr) (cv:Nat),s5=.slice Av i cv∧s10=.int .i64 i∧i≤len∧len - i<gk∧Hid (LInv ndE 49 (fun g=>w.heap.size≤g) w (.slice Av i cv) ((xs.take i).map G) wx))
 case atStart=>exact⟨0,none,0,rfl,rfl,by omega,by omega,hd_ LInv.start⟩
 case round=>
  obtain⟨i,Av,cv,rfl,rfl,hi,hgk,HI⟩:=hrel
  by_cases hlt:i<len
  ·have hltz:(i:Int)< (len:Int):=by omega
   obtain⟨gk',rfl⟩: ∃g',gk=g'+1:=⟨gk - 1,by omega⟩
   have HN:=hd_ (ai_ (show i+1≤len from hlt) (show len - (i+1)<gk' by omega))
   have hix:i<xs.length:=by rw[HL.out.1];exact hlt
   obtain⟨g,off,cs,rfl,_,hcell,d0,rfl,A1,l1,k1,rfl,hi0⟩:=(HL.out.2.1.below HI.out.bel).at i hix
   have e0:=hcell 0 _ rfl
   rw[show inE.sz=1 from rfl,Nat.mul_one,Nat.add_zero] at e0
   clear hcell
   have hbx:Below wr.heap.size wr (wr):=br_ _ _
   have hcall:=HL.out.2.2.2 xs[i] (List.getElem_mem hix) _ (below_then HI.out.bel hbx (lr_ _)) _ (El.below (E:=inE) ⟨_,rfl,A1,l1,k1,rfl,hi0⟩ hbx)
   have hnx:(xs.take i).map G++[G xs[i]]=(xs.take (i+1)).map G:=by rw[List.take_succ_eq_append_getElem hix,List.map_append,List.map_cons,List.map_nil]
   have hlk:=HL.out.2.2.1 i hi
   have HC:=hd_ hcall
   have HB:=hd_ hbx
   clear hcall hbx hgk hi0
   go_wp2_with fail
   refine HC.out.mono ?_
   rintro e w2 ⟨hb2,t3,A3,l3,c3,K3,m3,n3,rfl,hold⟩
   have h0:=HB.out.size
   have hwz:=HI.out.bel.size
   have hb3:=below_then HB.out hb2 (lr_ _)
   have hk1000:=HK.out
   obtain⟨A7,c7,w7,hrun,hI7⟩:=HI.out.push Tryz.infN (fun g hg=>hg) (below_then hb3 (below_new w2 (.cells #[.int .u8 t3,.slice A3 l3 c3,.slice K3 m3 n3] 49)) (lr_ _)) (x:=G xs[i]) (news:=[.int .u8 t3,.slice A3 l3 c3,.slice K3 m3 n3]) (⟨_,_,_,rfl,NdC.mono (fun g hg=>(fun g (hg:(wr).heap.size≤g)=>(⟨Nat.le_trans hwz (Nat.le_trans h0 hg),.inr (Nat.le_trans h0 hg)⟩:w.heap.size≤g∧(g<w.heap.size∨wr.heap.size≤g))) g hg) _ _ _ _ (NdC.below (below_new _ _) _ _ _ _ hold)⟩) (g1:=w2.heap.size) hb3.size (heap_new_ _ _) (fun j u hu=>by
    simpa using hu) (by rw[hlk];omega) (by rw[hlk];unfold maxLen;omega)
   rw[hlk] at hrun hI7
   rw[hnx] at hI7
   have HI7:=hd_ hI7
   clear hI7 hnx hlk e0 HC HB hb2 hb3 hold h0 hwz hk1000
   go_wp2_with (at_builtin;refine wpl_append rfl (.tmp 14) (.tmp 18) 47 rfl _ _ _ rfl rfl hrun ?_)
   clear hrun
   go_wp2
   go_roundg gk'
   case measure=>omega
   case rel=>exact⟨i+1,A7,c7,rfl,by go_num,HN.out.1,HN.out.2,HI7⟩
  ·obtain rfl:len=i:=by omega
   have hltz: ¬(len:Int)< (len:Int):=by omega
   obtain⟨A2,c2,e2,h1,h2,hLn⟩:=HI.out.row.lst (fun g hg=>hg)
   have hlk:=HL.out.2.2.1 len (lr_ _)
   rw[hlk] at e2 h1
   simp only[Value.slice.injEq] at e2
   obtain⟨rfl,_,rfl⟩:=e2
   rw[List.take_of_length_le (by rw[HL.out.1];exact lr_ _),HTL.out] at hLn
   have HF:=hd_ (ai_ HI.out.bel (ai_ h1 (ai_ h2 hLn)))
   clear h1 h2 hLn hgk hlk
   go_wp2
   go_ret
   exact⟨HF.out.1,Av,cv,rfl,HF.out.2.1,HF.out.2.2.1,HF.out.2.2.2⟩
theorem eachPrN (B:Nat→Prop)(G:Pr→Nd)(f:FuncId)(q:Value)(A:Option Addr)(len cap:Nat)(xs:List (Pr))(w:World)(hl:xs.length=len)(hL:Lst prE B w A xs)(hc:len≤cap)(hm:cap≤maxLen)(hlen:len≤1000)
 (hen: ∀args w,(callFunc f args).run Tryz.prog w=.ok (.enter f args) w)
 (hf: ∀x∈xs,∀(W:World),Below w.heap.size w W→∀c0 c1:Value,prE.hold B W x [c0,c1]→Calls Tryz.prog f #[.agg #[c0,c1],q] W (NVal (fun g=>W.heap.size≤g) W (G x))):
 Calls Tryz.prog 158 #[.slice A len cap,.func (.func f) #[] #[q]] w (LVal ndE (fun g=>w.heap.size≤g) w (xs.map G)):=by
 have h9:cap≤9223372036854775807:=by unfold maxLen at hm;omega
 obtain⟨TL,hTL⟩:=nm_ (xs.map G)
 have hTL3:TL.length=len:=by rw[←hTL,List.length_map,hl]
 have hlk: ∀i,i≤len→((xs.take i).map G).length=i:=fun i hi=>by rw[List.length_map,List.length_take];omega
 rw[hTL]
 unfold LVal
 rw[hTL3]
 have HTL:=hd_ hTL
 have HL:=hd_ (ai_ hl (ai_ hL (ai_ hlk hf)))
 have HK:=hd_ hlen
 clear hl hL hlk hf hTL hTL3 hm hlen
 go_enter Tryz.func158,Tryz.ntmps158
 go_wp2_with fail
 go_loopg [5,10] (len+1) (fun gk s5 s10 wx=>∃(i:Nat) (Av:Option Addr) (cv:Nat),s5=.slice Av i cv∧s10=.int .i64 i∧i≤len∧len - i<gk∧Hid (LInv ndE 49 (fun g=>w.heap.size≤g) w (.slice Av i cv) ((xs.take i).map G) wx))
 case atStart=>exact⟨0,none,0,rfl,rfl,by omega,by omega,hd_ LInv.start⟩
 case round=>
  obtain⟨i,Av,cv,rfl,rfl,hi,hgk,HI⟩:=hrel
  by_cases hlt:i<len
  ·have hltz:(i:Int)< (len:Int):=by omega
   obtain⟨gk',rfl⟩: ∃g',gk=g'+1:=⟨gk - 1,by omega⟩
   have HN:=hd_ (ai_ (show i+1≤len from hlt) (show len - (i+1)<gk' by omega))
   have hix:i<xs.length:=by rw[HL.out.1];exact hlt
   obtain⟨g,off,cs,rfl,_,hcell,d0,d1,rfl,A1,k1,rfl,rfl,hi0⟩:=(HL.out.2.1.below HI.out.bel).at i hix
   have e0:=hcell 0 _ rfl
   have e1:=hcell 1 _ rfl
   rw[show prE.sz=2 from rfl] at e0 e1
   rw[Nat.add_zero] at e0
   obtain⟨l1,hl1⟩:=nm_ ((xs[i]).names.length)
   obtain⟨s1,hs1⟩:=nm_ ((xs[i]).realm)
   rw[hl1] at e1
   rw[hs1] at e0
   clear hcell
   have hbx:Below wr.heap.size wr (wr.alloc (.cells #[.string s1,.slice A1 l1 k1] 107)):=below_new _ _
   have hcall:=HL.out.2.2.2 xs[i] (List.getElem_mem hix) _ (below_then HI.out.bel hbx (lr_ _)) _ _ (El.below (E:=prE) ⟨_,_,rfl,A1,k1,by rw[hs1],by rw[hl1],hi0⟩ hbx)
   have hnx:(xs.take i).map G++[G xs[i]]=(xs.take (i+1)).map G:=by rw[List.take_succ_eq_append_getElem hix,List.map_append,List.map_cons,List.map_nil]
   have hlk:=HL.out.2.2.1 i hi
   have HC:=hd_ hcall
   have HB:=hd_ hbx
   clear hcall hbx hgk hi0 hl1 hs1
   go_wp2_with fail
   refine HC.out.mono ?_
   rintro e w2 ⟨hb2,t3,A3,l3,c3,K3,m3,n3,rfl,hold⟩
   have h0:=HB.out.size
   have hwz:=HI.out.bel.size
   have hb3:=below_then HB.out hb2 (lr_ _)
   have hk1000:=HK.out
   obtain⟨A7,c7,w7,hrun,hI7⟩:=HI.out.push Tryz.infN (fun g hg=>hg) (below_then hb3 (below_new w2 (.cells #[.int .u8 t3,.slice A3 l3 c3,.slice K3 m3 n3] 49)) (lr_ _)) (x:=G xs[i]) (news:=[.int .u8 t3,.slice A3 l3 c3,.slice K3 m3 n3]) (⟨_,_,_,rfl,NdC.mono (fun g hg=>(fun g (hg:(wr.alloc (.cells #[.string s1,.slice A1 l1 k1] 107)).heap.size≤g)=>(⟨Nat.le_trans hwz (Nat.le_trans h0 hg),.inr (Nat.le_trans h0 hg)⟩:w.heap.size≤g∧(g<w.heap.size∨wr.heap.size≤g))) g hg) _ _ _ _ (NdC.below (below_new _ _) _ _ _ _ hold)⟩) (g1:=w2.heap.size) hb3.size (heap_new_ _ _) (fun j u hu=>by
    simpa using hu) (by rw[hlk];omega) (by rw[hlk];unfold maxLen;omega)
   rw[hlk] at hrun hI7
   rw[hnx] at hI7
   have HI7:=hd_ hI7
   clear hI7 hnx hlk e0 e1 HC HB hb2 hb3 hold h0 hwz hk1000
   go_wp2_with (at_builtin;refine wpl_append rfl (.tmp 14) (.tmp 18) 47 rfl _ _ _ rfl rfl hrun ?_)
   clear hrun
   go_wp2
   go_roundg gk'
   case measure=>omega
   case rel=>exact⟨i+1,A7,c7,rfl,by go_num,HN.out.1,HN.out.2,HI7⟩
  ·obtain rfl:len=i:=by omega
   have hltz: ¬(len:Int)< (len:Int):=by omega
   obtain⟨A2,c2,e2,h1,h2,hLn⟩:=HI.out.row.lst (fun g hg=>hg)
   have hlk:=HL.out.2.2.1 len (lr_ _)
   rw[hlk] at e2 h1
   simp only[Value.slice.injEq] at e2
   obtain⟨rfl,_,rfl⟩:=e2
   rw[List.take_of_length_le (by rw[HL.out.1];exact lr_ _),HTL.out] at hLn
   have HF:=hd_ (ai_ HI.out.bel (ai_ h1 (ai_ h2 hLn)))
   clear h1 h2 hLn hgk hlk
   go_wp2
   go_ret
   exact⟨HF.out.1,Av,cv,rfl,HF.out.2.1,HF.out.2.2.1,HF.out.2.2.2⟩
theorem eachNmN (B:Nat→Prop)(G:List At→Nd)(f:FuncId)(q:Value)(A:Option Addr)(len cap:Nat)(xs:List (List At))(w:World)(hl:xs.length=len)(hL:Lst nmE B w A xs)(hc:len≤cap)(hm:cap≤maxLen)(hlen:len≤1000)
 (hen: ∀args w,(callFunc f args).run Tryz.prog w=.ok (.enter f args) w)
 (hf: ∀x∈xs,∀(W:World),Below w.heap.size w W→∀c0:Value,nmE.hold B W x [c0]→Calls Tryz.prog f #[c0,q] W (NVal (fun g=>W.heap.size≤g) W (G x))):
 Calls Tryz.prog 166 #[.slice A len cap,.func (.func f) #[] #[q]] w (LVal ndE (fun g=>w.heap.size≤g) w (xs.map G)):=by
 have h9:cap≤9223372036854775807:=by unfold maxLen at hm;omega
 obtain⟨TL,hTL⟩:=nm_ (xs.map G)
 have hTL3:TL.length=len:=by rw[←hTL,List.length_map,hl]
 have hlk: ∀i,i≤len→((xs.take i).map G).length=i:=fun i hi=>by rw[List.length_map,List.length_take];omega
 rw[hTL]
 unfold LVal
 rw[hTL3]
 have HTL:=hd_ hTL
 have HL:=hd_ (ai_ hl (ai_ hL (ai_ hlk hf)))
 have HK:=hd_ hlen
 clear hl hL hlk hf hTL hTL3 hm hlen
 go_enter Tryz.func166,Tryz.ntmps166
 go_wp2_with fail
 go_loopg [5,10] (len+1) (fun gk s5 s10 wx=>∃(i:Nat) (Av:Option Addr) (cv:Nat),s5=.slice Av i cv∧s10=.int .i64 i∧i≤len∧len - i<gk∧Hid (LInv ndE 49 (fun g=>w.heap.size≤g) w (.slice Av i cv) ((xs.take i).map G) wx))
 case atStart=>exact⟨0,none,0,rfl,rfl,by omega,by omega,hd_ LInv.start⟩
 case round=>
  obtain⟨i,Av,cv,rfl,rfl,hi,hgk,HI⟩:=hrel
  by_cases hlt:i<len
  ·have hltz:(i:Int)< (len:Int):=by omega
   obtain⟨gk',rfl⟩: ∃g',gk=g'+1:=⟨gk - 1,by omega⟩
   have HN:=hd_ (ai_ (show i+1≤len from hlt) (show len - (i+1)<gk' by omega))
   have hix:i<xs.length:=by rw[HL.out.1];exact hlt
   obtain⟨g,off,cs,rfl,_,hcell,d0,rfl,A1,k1,rfl,hi0⟩:=(HL.out.2.1.below HI.out.bel).at i hix
   have e0:=hcell 0 _ rfl
   rw[show nmE.sz=1 from rfl,Nat.mul_one,Nat.add_zero] at e0
   obtain⟨l1,hl1⟩:=nm_ ((xs[i]).length)
   rw[hl1] at e0
   clear hcell
   have hbx:Below wr.heap.size wr (wr):=br_ _ _
   have hcall:=HL.out.2.2.2 xs[i] (List.getElem_mem hix) _ (below_then HI.out.bel hbx (lr_ _)) _ (El.below (E:=nmE) ⟨_,rfl,A1,k1,by rw[hl1],hi0⟩ hbx)
   have hnx:(xs.take i).map G++[G xs[i]]=(xs.take (i+1)).map G:=by rw[List.take_succ_eq_append_getElem hix,List.map_append,List.map_cons,List.map_nil]
   have hlk:=HL.out.2.2.1 i hi
   have HC:=hd_ hcall
   have HB:=hd_ hbx
   clear hcall hbx hgk hi0 hl1
   go_wp2_with fail
   refine HC.out.mono ?_
   rintro e w2 ⟨hb2,t3,A3,l3,c3,K3,m3,n3,rfl,hold⟩
   have h0:=HB.out.size
   have hwz:=HI.out.bel.size
   have hb3:=below_then HB.out hb2 (lr_ _)
   have hk1000:=HK.out
   obtain⟨A7,c7,w7,hrun,hI7⟩:=HI.out.push Tryz.infN (fun g hg=>hg) (below_then hb3 (below_new w2 (.cells #[.int .u8 t3,.slice A3 l3 c3,.slice K3 m3 n3] 49)) (lr_ _)) (x:=G xs[i]) (news:=[.int .u8 t3,.slice A3 l3 c3,.slice K3 m3 n3]) (⟨_,_,_,rfl,NdC.mono (fun g hg=>(fun g (hg:(wr).heap.size≤g)=>(⟨Nat.le_trans hwz (Nat.le_trans h0 hg),.inr (Nat.le_trans h0 hg)⟩:w.heap.size≤g∧(g<w.heap.size∨wr.heap.size≤g))) g hg) _ _ _ _ (NdC.below (below_new _ _) _ _ _ _ hold)⟩) (g1:=w2.heap.size) hb3.size (heap_new_ _ _) (fun j u hu=>by
    simpa using hu) (by rw[hlk];omega) (by rw[hlk];unfold maxLen;omega)
   rw[hlk] at hrun hI7
   rw[hnx] at hI7
   have HI7:=hd_ hI7
   clear hI7 hnx hlk e0 HC HB hb2 hb3 hold h0 hwz hk1000
   go_wp2_with (at_builtin;refine wpl_append rfl (.tmp 14) (.tmp 18) 47 rfl _ _ _ rfl rfl hrun ?_)
   clear hrun
   go_wp2
   go_roundg gk'
   case measure=>omega
   case rel=>exact⟨i+1,A7,c7,rfl,by go_num,HN.out.1,HN.out.2,HI7⟩
  ·obtain rfl:len=i:=by omega
   have hltz: ¬(len:Int)< (len:Int):=by omega
   obtain⟨A2,c2,e2,h1,h2,hLn⟩:=HI.out.row.lst (fun g hg=>hg)
   have hlk:=HL.out.2.2.1 len (lr_ _)
   rw[hlk] at e2 h1
   simp only[Value.slice.injEq] at e2
   obtain⟨rfl,_,rfl⟩:=e2
   rw[List.take_of_length_le (by rw[HL.out.1];exact lr_ _),HTL.out] at hLn
   have HF:=hd_ (ai_ HI.out.bel (ai_ h1 (ai_ h2 hLn)))
   clear h1 h2 hLn hgk hlk
   go_wp2
   go_ret
   exact⟨HF.out.1,Av,cv,rfl,HF.out.2.1,HF.out.2.2.1,HF.out.2.2.2⟩
theorem eachNIn (B:Nat→Prop)(G:Nd→List Int)(f:FuncId)(A:Option Addr)(len cap:Nat)(xs:List (Nd))(w:World)(hl:xs.length=len)(hL:Lst ndE B w A xs)(hc:len≤cap)(hm:cap≤maxLen)(hlen:len≤1000)
 (hen: ∀args w,(callFunc f args).run Tryz.prog w=.ok (.enter f args) w)
 (hf: ∀x∈xs,∀(W:World),Below w.heap.size w W→∀c0 c1 c2:Value,ndE.hold B W x [c0,c1,c2]→Calls Tryz.prog f #[.agg #[c0,c1,c2]] W (IMade W (G x))):
 Calls Tryz.prog 154 #[.slice A len cap,.func (.func f) #[] #[]] w (LVal inE (fun g=>w.heap.size≤g) w (xs.map G)):=by
 have h9:cap≤9223372036854775807:=by unfold maxLen at hm;omega
 obtain⟨TL,hTL⟩:=nm_ (xs.map G)
 have hTL3:TL.length=len:=by rw[←hTL,List.length_map,hl]
 have hlk: ∀i,i≤len→((xs.take i).map G).length=i:=fun i hi=>by rw[List.length_map,List.length_take];omega
 rw[hTL]
 unfold LVal
 rw[hTL3]
 have HTL:=hd_ hTL
 have HL:=hd_ (ai_ hl (ai_ hL (ai_ hlk hf)))
 have HK:=hd_ hlen
 clear hl hL hlk hf hTL hTL3 hm hlen
 go_enter Tryz.func154,Tryz.ntmps154
 go_wp2_with fail
 go_loopg [5,10] (len+1) (fun gk s5 s10 wx=>∃(i:Nat) (Av:Option Addr) (cv:Nat),s5=.slice Av i cv∧s10=.int .i64 i∧i≤len∧len - i<gk∧Hid (LInv inE 101 (fun g=>w.heap.size≤g) w (.slice Av i cv) ((xs.take i).map G) wx))
 case atStart=>exact⟨0,none,0,rfl,rfl,by omega,by omega,hd_ LInv.start⟩
 case round=>
  obtain⟨i,Av,cv,rfl,rfl,hi,hgk,HI⟩:=hrel
  by_cases hlt:i<len
  ·have hltz:(i:Int)< (len:Int):=by omega
   obtain⟨gk',rfl⟩: ∃g',gk=g'+1:=⟨gk - 1,by omega⟩
   have HN:=hd_ (ai_ (show i+1≤len from hlt) (show len - (i+1)<gk' by omega))
   have hix:i<xs.length:=by rw[HL.out.1];exact hlt
   obtain⟨g,off,t1,A1,l1,k1,K1,m1,n1,rfl,e0,e1,e2,hn1⟩:=nd_cells HL.out.2.1 HI.out.bel i hix
   have hbx:Below wr.heap.size wr (wr.alloc (.cells #[.int .u8 t1,.slice A1 l1 k1,.slice K1 m1 n1] 49)):=below_new _ _
   have hcall:=HL.out.2.2.2 xs[i] (List.getElem_mem hix) _ (below_then HI.out.bel hbx (lr_ _)) _ _ _ (El.below (E:=ndE) ⟨_,_,_,rfl,hn1⟩ hbx)
   have hnx:(xs.take i).map G++[G xs[i]]=(xs.take (i+1)).map G:=by rw[List.take_succ_eq_append_getElem hix,List.map_append,List.map_cons,List.map_nil]
   have hlk:=HL.out.2.2.1 i hi
   have HC:=hd_ hcall
   have HB:=hd_ hbx
   clear hcall hbx hgk hn1
   go_wp2_with fail
   refine HC.out.mono ?_
   rintro e w2 ⟨A3,c3,rfl,hold,hb2⟩
   have h0:=HB.out.size
   have hwz:=HI.out.bel.size
   have hb3:=below_then HB.out hb2 (lr_ _)
   have hk1000:=HK.out
   obtain⟨A7,c7,w7,hrun,hI7⟩:=HI.out.push Tryz.infI (fun g hg=>hg) (below_then hb3 (below_new w2 (.cells #[.slice A3 (G xs[i]).length c3] 101)) (lr_ _)) (x:=G xs[i]) (news:=[.slice A3 (G xs[i]).length c3]) (⟨_,rfl,A3,_,c3,rfl,hold.2.1,hold.2.2.1,hold.1.below (below_new _ _),fun hl g off sp e=>(fun g (hg:(wr.alloc (.cells #[.int .u8 t1,.slice A1 l1 k1,.slice K1 m1 n1] 49)).heap.size≤g)=>(⟨Nat.le_trans hwz (Nat.le_trans h0 hg),.inr (Nat.le_trans h0 hg)⟩:w.heap.size≤g∧(g<w.heap.size∨wr.heap.size≤g))) g (by obtain⟨b',off',e',_,_⟩:=hold.1.2.2 hl;have:=(hold.2.2.2 b' off' e').1;rw[e'] at e;cases e;exact this)⟩) (g1:=w2.heap.size) hb3.size (heap_new_ _ _) (fun j u hu=>by
    simpa using hu) (by rw[hlk];omega) (by rw[hlk];unfold maxLen;omega)
   rw[hlk] at hrun hI7
   rw[hnx] at hI7
   have HI7:=hd_ hI7
   clear hI7 hnx hlk e0 e1 e2 HC HB hb2 hb3 hold h0 hwz hk1000
   go_wp2_with (at_builtin;refine wpl_append rfl (.tmp 14) (.tmp 18) 25 rfl _ _ _ rfl rfl hrun ?_)
   clear hrun
   go_wp2
   go_roundg gk'
   case measure=>omega
   case rel=>exact⟨i+1,A7,c7,rfl,by go_num,HN.out.1,HN.out.2,HI7⟩
  ·obtain rfl:len=i:=by omega
   have hltz: ¬(len:Int)< (len:Int):=by omega
   obtain⟨A2,c2,e2,h1,h2,hLn⟩:=HI.out.row.lst (fun g hg=>hg)
   have hlk:=HL.out.2.2.1 len (lr_ _)
   rw[hlk] at e2 h1
   simp only[Value.slice.injEq] at e2
   obtain⟨rfl,_,rfl⟩:=e2
   rw[List.take_of_length_le (by rw[HL.out.1];exact lr_ _),HTL.out] at hLn
   have HF:=hd_ (ai_ HI.out.bel (ai_ h1 (ai_ h2 hLn)))
   clear h1 h2 hLn hgk hlk
   go_wp2
   go_ret
   exact⟨HF.out.1,Av,cv,rfl,HF.out.2.1,HF.out.2.2.1,HF.out.2.2.2⟩
theorem eachNPr (B:Nat→Prop)(G:Nd→Pr)(f:FuncId)(q:Value)(A:Option Addr)(len cap:Nat)(xs:List (Nd))(w:World)(hl:xs.length=len)(hL:Lst ndE B w A xs)(hc:len≤cap)(hm:cap≤maxLen)(hlen:len≤1000)
 (hen: ∀args w,(callFunc f args).run Tryz.prog w=.ok (.enter f args) w)
 (hf: ∀x∈xs,∀(W:World),Below w.heap.size w W→∀c0 c1 c2:Value,ndE.hold B W x [c0,c1,c2]→Calls Tryz.prog f #[.agg #[c0,c1,c2],q] W (PVal (fun g=>W.heap.size≤g) W (G x))):
 Calls Tryz.prog 162 #[.slice A len cap,.func (.func f) #[] #[q]] w (LVal prE (fun g=>w.heap.size≤g) w (xs.map G)):=by
 have h9:cap≤9223372036854775807:=by unfold maxLen at hm;omega
 obtain⟨TL,hTL⟩:=nm_ (xs.map G)
 have hTL3:TL.length=len:=by rw[←hTL,List.length_map,hl]
 have hlk: ∀i,i≤len→((xs.take i).map G).length=i:=fun i hi=>by rw[List.length_map,List.length_take];omega
 rw[hTL]
 unfold LVal
 rw[hTL3]
 have HTL:=hd_ hTL
 have HL:=hd_ (ai_ hl (ai_ hL (ai_ hlk hf)))
 have HK:=hd_ hlen
 clear hl hL hlk hf hTL hTL3 hm hlen
 go_enter Tryz.func162,Tryz.ntmps162
 go_wp2_with fail
 go_loopg [5,10] (len+1) (fun gk s5 s10 wx=>∃(i:Nat) (Av:Option Addr) (cv:Nat),s5=.slice Av i cv∧s10=.int .i64 i∧i≤len∧len - i<gk∧Hid (LInv prE 107 (fun g=>w.heap.size≤g) w (.slice Av i cv) ((xs.take i).map G) wx))
 case atStart=>exact⟨0,none,0,rfl,rfl,by omega,by omega,hd_ LInv.start⟩
 case round=>
  obtain⟨i,Av,cv,rfl,rfl,hi,hgk,HI⟩:=hrel
  by_cases hlt:i<len
  ·have hltz:(i:Int)< (len:Int):=by omega
   obtain⟨gk',rfl⟩: ∃g',gk=g'+1:=⟨gk - 1,by omega⟩
   have HN:=hd_ (ai_ (show i+1≤len from hlt) (show len - (i+1)<gk' by omega))
   have hix:i<xs.length:=by rw[HL.out.1];exact hlt
   obtain⟨g,off,t1,A1,l1,k1,K1,m1,n1,rfl,e0,e1,e2,hn1⟩:=nd_cells HL.out.2.1 HI.out.bel i hix
   have hbx:Below wr.heap.size wr (wr.alloc (.cells #[.int .u8 t1,.slice A1 l1 k1,.slice K1 m1 n1] 49)):=below_new _ _
   have hcall:=HL.out.2.2.2 xs[i] (List.getElem_mem hix) _ (below_then HI.out.bel hbx (lr_ _)) _ _ _ (El.below (E:=ndE) ⟨_,_,_,rfl,hn1⟩ hbx)
   have hnx:(xs.take i).map G++[G xs[i]]=(xs.take (i+1)).map G:=by rw[List.take_succ_eq_append_getElem hix,List.map_append,List.map_cons,List.map_nil]
   have hlk:=HL.out.2.2.1 i hi
   have HC:=hd_ hcall
   have HB:=hd_ hbx
   clear hcall hbx hgk hn1
   go_wp2_with fail
   refine HC.out.mono ?_
   rintro e w2 ⟨hb2,A3,c3,rfl,h31,h32,hold,h33⟩
   have h0:=HB.out.size
   have hwz:=HI.out.bel.size
   have hb3:=below_then HB.out hb2 (lr_ _)
   have hk1000:=HK.out
   obtain⟨A7,c7,w7,hrun,hI7⟩:=HI.out.push Tryz.infP (fun g hg=>hg) (below_then hb3 (below_new w2 (.cells #[.string (G xs[i]).realm,.slice A3 (G xs[i]).names.length c3] 107)) (lr_ _)) (x:=G xs[i]) (news:=[.string (G xs[i]).realm,.slice A3 (G xs[i]).names.length c3]) (⟨_,_,rfl,A3,c3,rfl,rfl,h31,h32,(hold.below (below_new _ _)).mono (fun g hg=>(fun g (hg:(wr.alloc (.cells #[.int .u8 t1,.slice A1 l1 k1,.slice K1 m1 n1] 49)).heap.size≤g)=>(⟨Nat.le_trans hwz (Nat.le_trans h0 hg),.inr (Nat.le_trans h0 hg)⟩:w.heap.size≤g∧(g<w.heap.size∨wr.heap.size≤g))) g hg),h33⟩) (g1:=w2.heap.size) hb3.size (heap_new_ _ _) (fun j u hu=>by
    simpa using hu) (by rw[hlk];omega) (by rw[hlk];unfold maxLen;omega)
   rw[hlk] at hrun hI7
   rw[hnx] at hI7
   have HI7:=hd_ hI7
   clear hI7 hnx hlk e0 e1 e2 HC HB hb2 hb3 hold h0 hwz hk1000
   go_wp2_with (at_builtin;refine wpl_append rfl (.tmp 14) (.tmp 18) 26 rfl _ _ _ rfl rfl hrun ?_)
   clear hrun
   go_wp2
   go_roundg gk'
   case measure=>omega
   case rel=>exact⟨i+1,A7,c7,rfl,by go_num,HN.out.1,HN.out.2,HI7⟩
  ·obtain rfl:len=i:=by omega
   have hltz: ¬(len:Int)< (len:Int):=by omega
   obtain⟨A2,c2,e2,h1,h2,hLn⟩:=HI.out.row.lst (fun g hg=>hg)
   have hlk:=HL.out.2.2.1 len (lr_ _)
   rw[hlk] at e2 h1
   simp only[Value.slice.injEq] at e2
   obtain⟨rfl,_,rfl⟩:=e2
   rw[List.take_of_length_le (by rw[HL.out.1];exact lr_ _),HTL.out] at hLn
   have HF:=hd_ (ai_ HI.out.bel (ai_ h1 (ai_ h2 hLn)))
   clear h1 h2 hLn hgk hlk
   go_wp2
   go_ret
   exact⟨HF.out.1,Av,cv,rfl,HF.out.2.1,HF.out.2.2.1,HF.out.2.2.2⟩
theorem eachNNm (B:Nat→Prop)(G:Nd→List At)(f:FuncId)(q:Value)(A:Option Addr)(len cap:Nat)(xs:List (Nd))(w:World)(hl:xs.length=len)(hL:Lst ndE B w A xs)(hc:len≤cap)(hm:cap≤maxLen)(hlen:len≤1000)
 (hen: ∀args w,(callFunc f args).run Tryz.prog w=.ok (.enter f args) w)
 (hf: ∀x∈xs,∀(W:World),Below w.heap.size w W→∀c0 c1 c2:Value,ndE.hold B W x [c0,c1,c2]→Calls Tryz.prog f #[.agg #[c0,c1,c2],q] W (LVal atE (fun g=>W.heap.size≤g) W (G x))):
 Calls Tryz.prog 169 #[.slice A len cap,.func (.func f) #[] #[q]] w (LVal nmE (fun g=>w.heap.size≤g) w (xs.map G)):=by
 have h9:cap≤9223372036854775807:=by unfold maxLen at hm;omega
 obtain⟨TL,hTL⟩:=nm_ (xs.map G)
 have hTL3:TL.length=len:=by rw[←hTL,List.length_map,hl]
 have hlk: ∀i,i≤len→((xs.take i).map G).length=i:=fun i hi=>by rw[List.length_map,List.length_take];omega
 rw[hTL]
 unfold LVal
 rw[hTL3]
 have HTL:=hd_ hTL
 have HL:=hd_ (ai_ hl (ai_ hL (ai_ hlk hf)))
 have HK:=hd_ hlen
 clear hl hL hlk hf hTL hTL3 hm hlen
 go_enter Tryz.func169,Tryz.ntmps169
 go_wp2_with fail
 go_loopg [5,10] (len+1) (fun gk s5 s10 wx=>∃(i:Nat) (Av:Option Addr) (cv:Nat),s5=.slice Av i cv∧s10=.int .i64 i∧i≤len∧len - i<gk∧Hid (LInv nmE 23 (fun g=>w.heap.size≤g) w (.slice Av i cv) ((xs.take i).map G) wx))
 case atStart=>exact⟨0,none,0,rfl,rfl,by omega,by omega,hd_ LInv.start⟩
 case round=>
  obtain⟨i,Av,cv,rfl,rfl,hi,hgk,HI⟩:=hrel
  by_cases hlt:i<len
  ·have hltz:(i:Int)< (len:Int):=by omega
   obtain⟨gk',rfl⟩: ∃g',gk=g'+1:=⟨gk - 1,by omega⟩
   have HN:=hd_ (ai_ (show i+1≤len from hlt) (show len - (i+1)<gk' by omega))
   have hix:i<xs.length:=by rw[HL.out.1];exact hlt
   obtain⟨g,off,t1,A1,l1,k1,K1,m1,n1,rfl,e0,e1,e2,hn1⟩:=nd_cells HL.out.2.1 HI.out.bel i hix
   have hbx:Below wr.heap.size wr (wr.alloc (.cells #[.int .u8 t1,.slice A1 l1 k1,.slice K1 m1 n1] 49)):=below_new _ _
   have hcall:=HL.out.2.2.2 xs[i] (List.getElem_mem hix) _ (below_then HI.out.bel hbx (lr_ _)) _ _ _ (El.below (E:=ndE) ⟨_,_,_,rfl,hn1⟩ hbx)
   have hnx:(xs.take i).map G++[G xs[i]]=(xs.take (i+1)).map G:=by rw[List.take_succ_eq_append_getElem hix,List.map_append,List.map_cons,List.map_nil]
   have hlk:=HL.out.2.2.1 i hi
   have HC:=hd_ hcall
   have HB:=hd_ hbx
   clear hcall hbx hgk hn1
   go_wp2_with fail
   refine HC.out.mono ?_
   rintro e w2 ⟨hb2,A3,c3,rfl,h31,h32,hold⟩
   have h0:=HB.out.size
   have hwz:=HI.out.bel.size
   have hb3:=below_then HB.out hb2 (lr_ _)
   have hk1000:=HK.out
   obtain⟨A7,c7,w7,hrun,hI7⟩:=HI.out.push Tryz.infNm (fun g hg=>hg) (below_then hb3 (below_new w2 (.cells #[.slice A3 (G xs[i]).length c3] 23)) (lr_ _)) (x:=G xs[i]) (news:=[.slice A3 (G xs[i]).length c3]) (⟨_,rfl,A3,c3,rfl,h31,h32,(hold.below (below_new _ _)).mono (fun g hg=>(fun g (hg:(wr.alloc (.cells #[.int .u8 t1,.slice A1 l1 k1,.slice K1 m1 n1] 49)).heap.size≤g)=>(⟨Nat.le_trans hwz (Nat.le_trans h0 hg),.inr (Nat.le_trans h0 hg)⟩:w.heap.size≤g∧(g<w.heap.size∨wr.heap.size≤g))) g hg)⟩) (g1:=w2.heap.size) hb3.size (heap_new_ _ _) (fun j u hu=>by
    simpa using hu) (by rw[hlk];omega) (by rw[hlk];unfold maxLen;omega)
   rw[hlk] at hrun hI7
   rw[hnx] at hI7
   have HI7:=hd_ hI7
   clear hI7 hnx hlk e0 e1 e2 HC HB hb2 hb3 hold h0 hwz hk1000
   go_wp2_with (at_builtin;refine wpl_append rfl (.tmp 14) (.tmp 18) 27 rfl _ _ _ rfl rfl hrun ?_)
   clear hrun
   go_wp2
   go_roundg gk'
   case measure=>omega
   case rel=>exact⟨i+1,A7,c7,rfl,by go_num,HN.out.1,HN.out.2,HI7⟩
  ·obtain rfl:len=i:=by omega
   have hltz: ¬(len:Int)< (len:Int):=by omega
   obtain⟨A2,c2,e2,h1,h2,hLn⟩:=HI.out.row.lst (fun g hg=>hg)
   have hlk:=HL.out.2.2.1 len (lr_ _)
   rw[hlk] at e2 h1
   simp only[Value.slice.injEq] at e2
   obtain⟨rfl,_,rfl⟩:=e2
   rw[List.take_of_length_le (by rw[HL.out.1];exact lr_ _),HTL.out] at hLn
   have HF:=hd_ (ai_ HI.out.bel (ai_ h1 (ai_ h2 hLn)))
   clear h1 h2 hLn hgk hlk
   go_wp2
   go_ret
   exact⟨HF.out.1,Av,cv,rfl,HF.out.2.1,HF.out.2.2.1,HF.out.2.2.2⟩
theorem eachNOd (B:Nat→Prop)(G:Nd→Od)(f:FuncId)(A:Option Addr)(len cap:Nat)(xs:List (Nd))(w:World)(hl:xs.length=len)(hL:Lst ndE B w A xs)(hc:len≤cap)(hm:cap≤maxLen)(hlen:len≤1000)
 (hen: ∀args w,(callFunc f args).run Tryz.prog w=.ok (.enter f args) w)
 (hf: ∀x∈xs,∀(W:World),Below w.heap.size w W→∀c0 c1 c2:Value,ndE.hold B W x [c0,c1,c2]→Calls Tryz.prog f #[.agg #[c0,c1,c2]] W (OVal (fun g=>W.heap.size≤g) W (G x))):
 Calls Tryz.prog 236 #[.slice A len cap,.func (.func f) #[] #[]] w (LVal odE (fun g=>w.heap.size≤g) w (xs.map G)):=by
 have h9:cap≤9223372036854775807:=by unfold maxLen at hm;omega
 obtain⟨TL,hTL⟩:=nm_ (xs.map G)
 have hTL3:TL.length=len:=by rw[←hTL,List.length_map,hl]
 have hlk: ∀i,i≤len→((xs.take i).map G).length=i:=fun i hi=>by rw[List.length_map,List.length_take];omega
 rw[hTL]
 unfold LVal
 rw[hTL3]
 have HTL:=hd_ hTL
 have HL:=hd_ (ai_ hl (ai_ hL (ai_ hlk hf)))
 have HK:=hd_ hlen
 clear hl hL hlk hf hTL hTL3 hm hlen
 go_enter Tryz.func236,Tryz.ntmps236
 go_wp2_with fail
 go_loopg [5,10] (len+1) (fun gk s5 s10 wx=>∃(i:Nat) (Av:Option Addr) (cv:Nat),s5=.slice Av i cv∧s10=.int .i64 i∧i≤len∧len - i<gk∧Hid (LInv odE 109 (fun g=>w.heap.size≤g) w (.slice Av i cv) ((xs.take i).map G) wx))
 case atStart=>exact⟨0,none,0,rfl,rfl,by omega,by omega,hd_ LInv.start⟩
 case round=>
  obtain⟨i,Av,cv,rfl,rfl,hi,hgk,HI⟩:=hrel
  by_cases hlt:i<len
  ·have hltz:(i:Int)< (len:Int):=by omega
   obtain⟨gk',rfl⟩: ∃g',gk=g'+1:=⟨gk - 1,by omega⟩
   have HN:=hd_ (ai_ (show i+1≤len from hlt) (show len - (i+1)<gk' by omega))
   have hix:i<xs.length:=by rw[HL.out.1];exact hlt
   obtain⟨g,off,t1,A1,l1,k1,K1,m1,n1,rfl,e0,e1,e2,hn1⟩:=nd_cells HL.out.2.1 HI.out.bel i hix
   have hbx:Below wr.heap.size wr (wr.alloc (.cells #[.int .u8 t1,.slice A1 l1 k1,.slice K1 m1 n1] 49)):=below_new _ _
   have hcall:=HL.out.2.2.2 xs[i] (List.getElem_mem hix) _ (below_then HI.out.bel hbx (lr_ _)) _ _ _ (El.below (E:=ndE) ⟨_,_,_,rfl,hn1⟩ hbx)
   have hnx:(xs.take i).map G++[G xs[i]]=(xs.take (i+1)).map G:=by rw[List.take_succ_eq_append_getElem hix,List.map_append,List.map_cons,List.map_nil]
   have hlk:=HL.out.2.2.1 i hi
   have HC:=hd_ hcall
   have HB:=hd_ hbx
   clear hcall hbx hgk hn1
   go_wp2_with fail
   refine HC.out.mono ?_
   rintro e w2 ⟨hb2,A3,l3,c3,B3,m3,n3,rfl,hold⟩
   have h0:=HB.out.size
   have hwz:=HI.out.bel.size
   have hb3:=below_then HB.out hb2 (lr_ _)
   have hk1000:=HK.out
   obtain⟨A7,c7,w7,hrun,hI7⟩:=HI.out.push Tryz.infO (fun g hg=>hg) (below_then hb3 (below_new w2 (.cells #[.slice A3 l3 c3,.bool (G xs[i]).crit,.slice B3 m3 n3] 109)) (lr_ _)) (x:=G xs[i]) (news:=[.slice A3 l3 c3,.bool (G xs[i]).crit,.slice B3 m3 n3]) (⟨_,_,_,rfl,OdC.mono (fun g hg=>(fun g (hg:(wr.alloc (.cells #[.int .u8 t1,.slice A1 l1 k1,.slice K1 m1 n1] 49)).heap.size≤g)=>(⟨Nat.le_trans hwz (Nat.le_trans h0 hg),.inr (Nat.le_trans h0 hg)⟩:w.heap.size≤g∧(g<w.heap.size∨wr.heap.size≤g))) g hg) (hold.below (below_new _ _))⟩) (g1:=w2.heap.size) hb3.size (heap_new_ _ _) (fun j u hu=>by
    simpa using hu) (by rw[hlk];omega) (by rw[hlk];unfold maxLen;omega)
   rw[hlk] at hrun hI7
   rw[hnx] at hI7
   have HI7:=hd_ hI7
   clear hI7 hnx hlk e0 e1 e2 HC HB hb2 hb3 hold h0 hwz hk1000
   go_wp2_with (at_builtin;refine wpl_append rfl (.tmp 14) (.tmp 18) 28 rfl _ _ _ rfl rfl hrun ?_)
   clear hrun
   go_wp2
   go_roundg gk'
   case measure=>omega
   case rel=>exact⟨i+1,A7,c7,rfl,by go_num,HN.out.1,HN.out.2,HI7⟩
  ·obtain rfl:len=i:=by omega
   have hltz: ¬(len:Int)< (len:Int):=by omega
   obtain⟨A2,c2,e2,h1,h2,hLn⟩:=HI.out.row.lst (fun g hg=>hg)
   have hlk:=HL.out.2.2.1 len (lr_ _)
   rw[hlk] at e2 h1
   simp only[Value.slice.injEq] at e2
   obtain⟨rfl,_,rfl⟩:=e2
   rw[List.take_of_length_le (by rw[HL.out.1];exact lr_ _),HTL.out] at hLn
   have HF:=hd_ (ai_ HI.out.bel (ai_ h1 (ai_ h2 hLn)))
   clear h1 h2 hLn hgk hlk
   go_wp2
   go_ret
   exact⟨HF.out.1,Av,cv,rfl,HF.out.2.1,HF.out.2.2.1,HF.out.2.2.2⟩
end Go.Proofs.YtjanfogifehhmaaGreatDoor.nmc
namespace Go.Proofs.YtjanfogifehhmaaGreatDoor.nmc
open Go.RowKit tlvc tlvd ndc txc txm intc intm
def GetPostF (w:World)(r:Option (List At))(e:Ending)(w':World):Prop:=
 Below w.heap.size w w'∧match r with
  |none=>e=.returned (.tuple #[.slice none 0 0,.int .i64 91])
  |some l=>∃A c,e=.returned (.tuple #[.slice A l.length c,.int .i64 0])∧l.length≤c∧c≤maxLen∧Lst atE (fun g=>w.heap.size≤g) w' A l
def GetPPostF (w:World)(r:Option Pr)(e:Ending)(w':World):Prop:=
 Below w.heap.size w w'∧match r with
  |none=>e=.returned (.tuple #[.agg #[.string ⟨#[]⟩,.slice none 0 0],.int .i64 91])
  |some p=>∃s A l c,e=.returned (.tuple #[.agg #[.string s,.slice A l c],.int .i64 0])∧PrC (fun g=>w.heap.size≤g) w' p (.string s) (.slice A l c)
theorem GetPostF.any {w:World}{r:Option (List At)}{e:Ending}{w':World}(h:GetPostF w r e w'):Below w.heap.size w w'∧∃A l c er,e=.returned (.tuple #[.slice A l c,.int .i64 er])∧(r.getD []).length=l∧l≤c∧c≤maxLen∧Lst atE (fun g=>w.heap.size≤g) w' A (r.getD []):=by
 obtain⟨hb,h⟩:=h
 refine⟨hb,?_⟩
 cases r with
 |none=>exact⟨_,_,_,_,h,rfl,lr_ _,Nat.zero_le _,Lst.nil _ _ _⟩
 |some n=>
  obtain⟨A,c,e,h1,h2,h3⟩:=h
  exact⟨A,_,c,_,e,rfl,h1,h2,h3⟩
theorem GetPPostF.any {w:World}{r:Option Pr}{e:Ending}{w':World}(h:GetPPostF w r e w'):Below w.heap.size w w'∧∃s A l c er,e=.returned (.tuple #[.agg #[.string s,.slice A l c],.int .i64 er])∧PrC (fun g=>w.heap.size≤g) w' (r.getD ⟨⟨#[]⟩,[]⟩) (.string s) (.slice A l c):=by
 obtain⟨hb,h⟩:=h
 refine⟨hb,?_⟩
 cases r with
 |none=>exact⟨_,_,_,_,_,h,none,0,rfl,rfl,lr_ _,Nat.zero_le _,Lst.nil _ _ _,Nat.zero_le _⟩
 |some p=>
  obtain⟨s,A,l,c,e,h1⟩:=h
  exact⟨s,A,l,c,_,e,h1⟩
theorem getF_any (B:Nat→Prop)(n:Nd)(c0 c1 c2:Value)(w:World)(hn:NdC B w n c0 c1 c2)(hT:Tabs w):
 Calls Tryz.prog 55 #[.agg #[c0,c1,c2]] w (GetPostF w (getN n)):=by
 obtain⟨t,A1,l1,k1,K1,m1,n1,rfl,rfl,rfl⟩:=hn.shape
 obtain⟨W0,hW0⟩:=nm_ (w.alloc (.cells #[.int .u8 t,.slice A1 l1 k1,.slice K1 m1 n1] 49))
 have hb0:Below w.heap.size w W0:=by rw[←hW0];exact below_new _ _
 have q0:W0.heap[w.heap.size]? =some (.cells #[.int .u8 t,.slice A1 l1 k1,.slice K1 m1 n1] 49):=by rw[←hW0];exact heap_new_ _ _
 obtain⟨x0,x1,x2⟩:=box_nd (br_ _ W0) q0
 have hpt:=partsA_any B n _ _ _ W0 (NdC.below hb0 _ _ _ _ hn)
 rw[show(n.kids.take 8).map toldA=toldN n from rfl] at hpt
 rw[getN_back]
 obtain⟨l,hl⟩:=nm_ (toldN n)
 rw[hl] at hpt⊢
 have hap:=fun(A:Option Addr) (c:Nat) (W:World) (hW:Below w.heap.size w W) (h1:l.length≤c) (h2:c≤maxLen) (hL:Lst atE (fun g=>w.heap.size≤g) W A l)=>asPutN_any B (fun g=>w.heap.size≤g) n A l.length c l _ _ _ W (NdC.below hW _ _ _ _ hn) rfl hL h1 h2 (hT.below hW)
 obtain⟨bk,hbk⟩:=nm_ (backN l n)
 rw[hbk] at hap⊢
 obtain⟨R,hR⟩:=nm_ ((if bk=true then some l else none))
 rw[hR]
 have HR:=hd_ hR
 have HP:=hd_ hpt
 have HA:=hd_ hap
 have HB:=hd_ (ai_ hb0 q0)
 clear hpt hap hb0 q0 hl hbk hn hT hR
 go_enter Tryz.func55,Tryz.ntmps55
 go_wp2_with fail
 refine HP.out.mono ?_
 rintro e w1 ⟨hb1,A,c,rfl,h1,h2,hL⟩
 have hL:=hL.mono (S':=fun g=>w.heap.size≤g) (fun g hg=>Nat.le_trans HB.out.1.size hg)
 have hbw:=below_then HB.out.1 hb1 (lr_ _)
 clear x0 x1 x2
 obtain⟨x0,x1,x2⟩:=box_nd hb1 HB.out.2
 have hcall:=HA.out A c w1 hbw h1 h2 hL
 have HC:=hd_ hcall
 have HW:=hd_ (ai_ hbw (ai_ h1 (ai_ h2 hL)))
 obtain⟨ll,hll⟩:=nm_ (l.length)
 rw[hll] at HC HW⊢
 have HLL:=hd_ hll
 clear hcall hbw hb1 h1 h2 hL HP HA HB hll
 go_wp2_with fail
 refine HC.out.mono ?_
 rintro e w2 ⟨hb2,he⟩
 have HF:=hd_ (below_then HW.out.1 hb2 (lr_ _))
 have HL:=hd_ (HW.out.2.2.2.below hb2)
 clear hb2 HC x0 x1 x2
 cases bk
 ·have he:e=.returned (.tuple #[.slice none 0 0,.int .i64 91]):=he
  have hR:none=R:=HR.out
  subst hR
  subst he
  go_wp2
  go_ret2
  exact⟨HF.out,rfl⟩
 ·have he:e=.returned (.tuple #[.slice A ll c,.int .i64 0]):=he
  have hR:some l=R:=HR.out
  subst hR
  subst he
  go_wp2
  go_ret2
  exact⟨HF.out,A,c,by rw[HLL.out];rfl,by rw[HLL.out];exact HW.out.2.1,HW.out.2.2.1,HL.out⟩
theorem getPrincF_any (B:Nat→Prop)(n:Nd)(c0 c1 c2:Value)(w:World)(hn:NdC B w n c0 c1 c2)(hT:Tabs w):
 Calls Tryz.prog 164 #[.agg #[c0,c1,c2]] w (GetPPostF w (getP n)):=by
 have mixed:Tryz.prog.follows Departure.mixedOrders=true:=by kernel_rfl
 obtain⟨t,A1,l1,k1,K1,m1,n1,rfl,rfl,rfl⟩:=hn.shape
 obtain⟨W0,hW0⟩:=nm_ ((w.alloc (.cells #[.int .u8 t,.slice A1 l1 k1,.slice K1 m1 n1] 49)).alloc (.cells #[.string ⟨#[]⟩,.slice none 0 0] 107))
 have hb0:Below w.heap.size w W0:=by rw[←hW0];exact(below_new _ _).alloc (by simp) _
 have hz0:W0.heap.size=w.heap.size+2:=by rw[←hW0];simp
 have p0:W0.heap[w.heap.size+1]? =some (.cells #[.string ⟨#[]⟩,.slice none 0 0] 107):=by rw[←hW0];exact heap_is (by simp)
 have q0:W0.heap[w.heap.size]? =some (.cells #[.int .u8 t,.slice A1 l1 k1,.slice K1 m1 n1] 49):=by rw[←hW0,heap_old_ _ _ (by simp)];exact heap_new_ _ _
 obtain⟨x0,x1,x2⟩:=box_nd (br_ _ W0) q0
 have hk1:=kidAt_any B n 1 _ _ _ W0 (NdC.below hb0 _ _ _ _ hn) (by omega)
 have hk0:=fun W (hW:Below W0.heap.size W0 W)=>kidAt_any B n 0 _ _ _ W (NdC.below (below_then hb0 hW (lr_ _)) _ _ _ _ hn) (by omega)
 have htold:toldP n=⟨strOfNums (kidF n 0).body,((kidF n 1).kids.take 8).map btxt⟩:=rfl
 have hpa:=fun(m:Nd) (c0 c1 c2:Value) (W:World) (hW:Below W0.heap.size W0 W) (hm:NdC (fun _=>True) W m c0 c1 c2)=>partsS_any (fun _=>True) m c0 c1 c2 W hm
 rw[getP_back]
 obtain⟨p,hp⟩:=nm_ (toldP n)
 rw[hp] at htold⊢
 have has:=fun(d0 d1:Value) (W:World) (hW:Below W0.heap.size W0 W) (hd:PrC (fun _=>True) W p d0 d1)=>asPutP_any B (fun _=>True) n p d0 d1 _ _ _ W (NdC.below (below_then hb0 hW (lr_ _)) _ _ _ _ hn) hd (hT.below (below_then hb0 hW (lr_ _)))
 obtain⟨bk,hbk⟩:=nm_ (backP p n)
 rw[hbk] at has⊢
 obtain⟨R,hR⟩:=nm_ ((if bk=true then some p else none))
 rw[hR]
 have HR:=hd_ hR
 have HT:=hd_ htold
 have HK1:=hd_ hk1
 have HK0:=hd_ hk0
 have HPA:=hd_ hpa
 have HAS:=hd_ has
 have HX:=hd_ (fun W (hW:Below W0.heap.size W0 W)=>box_nd hW q0)
 have HB:=hd_ (ai_ hb0 (ai_ p0 hz0))
 clear hk1 hk0 htold hpa has hb0 p0 q0 hz0 hp hbk hR hn hT
 cases bk
 ·have hR:none=R:=HR.out
  subst hR
  go_enter Tryz.func164,Tryz.ntmps164
  go_wp2_with fail
  refine HK1.out.mono ?_
  rintro e w1 ⟨hb1,t2,A2,l2,k2,K2,m2,n2,rfl,hn2⟩
  have hcall:=HPA.out _ _ _ _ w1 hb1 hn2
  have HC:=hd_ hcall
  have HB1:=hd_ hb1
  clear hcall hb1 hn2 HK1 HPA x0 x1 x2
  go_wp2_with fail
  refine HC.out.mono ?_
  rintro e w2 ⟨hb2,A,c,rfl,h1,h2,hL⟩
  have hb2:=below_then HB1.out hb2 (lr_ _)
  obtain⟨L,hLe⟩:=nm_ ((List.map btxt (List.take 8 (kidF n 1).kids)).length)
  rw[hLe] at h1⊢
  have hw1:=HB1.out.size
  have hL:=hL.mono (S':=fun g=>w.heap.size+2≤g) (fun g hg=>by have:=HB.out.2.2;omega)
  have HLS:=hd_ (ai_ hLe (ai_ h1 (ai_ h2 hL)))
  clear hw1
  have HB2:=hd_ hb2
  obtain⟨x0,x1,x2⟩:=HX.out w2 hb2
  clear hb2 h1 h2 hL hLe HC HB1
  go_wp2_with fail
  try dsimp only
  refine wp_region_noPanic ?_
  refine wp_region_held_drew (S:=fun wx:World=>wx.cell? ⟨w.heap.size,0,none⟩=some (.int .u8 t)∧wx.cell? ⟨w.heap.size,1,none⟩=some (.slice A1 l1 k1)∧wx.cell? ⟨w.heap.size,2,none⟩=some (.slice K1 m1 n1)) mixed ⟨x0,x1,x2⟩ (fun hHeld=>?_)
  have hbd:=below_drew w2
  obtain⟨wd,hwd⟩:=nm_ (w2.drew)
  rw[hwd] at hHeld hbd⊢
  clear hwd
  have hbd0:=below_then HB2.out hbd (lr_ _)
  refine tk_ (i:=0) (z:=?_)
  refine tk_ (i:=1) (z:=?_)
  refine tk_ (i:=5) (z:=?_)
  refine on_ (i:=2) (z:=fun KK hKK=>?_)
  go_simp
  refine(HK0.out _ hbd0).mono ?_
  rintro e w3 ⟨hb3,t3,A3,l3,k3,K3,m3,n3,rfl,hn3⟩
  dsimp only
  obtain⟨g1,g2,g3,g4⟩:=body_size hn3
  have hcv:=intc.str_now g3 k3
  have hz:(strOfNums (kidF n 0).body).size≤maxLen:=by rw[strOfNums_size,g4];exact Nat.le_trans g1 g2
  have hfd:=fld1 t3 A3 l3 k3 K3 m3 n3
  have hb3':=below_then hbd hb3 (lr_ _)
  have hb3:=below_then hbd0 hb3 (lr_ _)
  have hpp:PrC (fun g=>w.heap.size+2≤g) w3 p (.string (strOfNums (kidF n 0).body)) (.slice A L c):=by
   rw[HT.out]
   exact⟨A,c,rfl,by show Value.slice A L c=Value.slice A (List.map btxt (List.take 8 (kidF n 1).kids)).length c;rw[HLS.out.1],by show(List.map btxt (List.take 8 (kidF n 1).kids)).length≤c;rw[HLS.out.1];exact HLS.out.2.1,HLS.out.2.2.1,HLS.out.2.2.2.below hb3',hz⟩
  obtain⟨s,hs⟩:=nm_ (strOfNums (kidF n 0).body)
  rw[hs] at hcv hpp
  have hcall:=HAS.out _ _ w3 hb3 (hpp.on (lr_ _) (fun _ _ _=>rfl) (fun _ _ _=>trivial))
  have HC:=hd_ hcall
  have HPP:=hd_ hpp
  clear hcall hs hz hn3 g1 g2 g3 g4
  refine hKK.out _ _ (HX.out w3 hb3) (fun hHeld=>?_)
  clear hKK KK
  try simp only[Act.put,qa_,qb_,qc_]
  refine tk_ (i:=3) (z:=?_)
  refine on_ (i:=4) (z:=fun KK hKK=>?_)
  go_simp
  refine hKK.out _ _ (HX.out w3 hb3) (fun hHeld=>?_)
  clear hKK KK
  try simp only[Act.put,qa_,qb_,qc_]
  refine tk_ (i:=6) (z:=?_)
  refine on_ (i:=7) (z:=fun KK hKK=>?_)
  go_simp
  refine HC.out.mono ?_
  rintro e w4 ⟨hb4,he⟩
  have he:e=.returned (.tuple #[.agg #[.string ⟨#[]⟩,.slice none 0 0],.int .i64 91]):=he
  subst he
  dsimp only
  have hb4':=hb4
  have hb4:=below_then hb3 hb4 (lr_ _)
  refine hKK.out _ _ (HX.out w4 hb4) (fun hHeld=>?_)
  clear hKK KK
  try simp only[Act.put,qa_,qb_,qc_]
  refine tk_ (i:=8) (z:=?_)
  refine tk_ (i:=9) (z:=?_)
  have p4:=(hb4.block _ (by have:=HB.out.2.2;omega)).trans HB.out.2.1
  obtain⟨r0,r1,hBr,hoth,hszr⟩:=res2 (y0:=(.string ⟨#[]⟩)) (y1:=(.slice none 0 0)) (Nat.le_succ _) (below_then HB.out.1 hb4 (lr_ _)) p4
  have f0:=fh_ p4 0
  have f1:=fh_ p4 1
  have s0:=(ch_ p4 0).trans rfl
  have s1:=(ch_ p4 1).trans rfl
  obtain⟨z0,z1,z2⟩:=HX.out w4 hb4
  have hcb:((w4.setCell ⟨w.heap.size+1,0,none⟩ (.string ⟨#[]⟩)).setCell ⟨w.heap.size+1,1,none⟩ (.slice none 0 0)).cell? ⟨w.heap.size,0,none⟩=some (.int .u8 t)∧((w4.setCell ⟨w.heap.size+1,0,none⟩ (.string ⟨#[]⟩)).setCell ⟨w.heap.size+1,1,none⟩ (.slice none 0 0)).cell? ⟨w.heap.size,1,none⟩=some (.slice A1 l1 k1)∧((w4.setCell ⟨w.heap.size+1,0,none⟩ (.string ⟨#[]⟩)).setCell ⟨w.heap.size+1,1,none⟩ (.slice none 0 0)).cell? ⟨w.heap.size,2,none⟩=some (.slice K1 m1 n1):=
   ⟨(cell_same (hoth w.heap.size (by omega))).trans z0,(cell_same (hoth w.heap.size (by omega))).trans z1,(cell_same (hoth w.heap.size (by omega))).trans z2⟩
  have HE:=hd_ hBr
  refine on_ (i:=10) (z:=fun KK hKK=>?_)
  go_simp
  refine hKK.out _ _ hcb (fun hHeld=>?_)
  clear hKK KK
  try simp only[Act.put,qa_,qb_,qc_]
  refine tk_ (i:=11) (z:=?_)
  refine wpAnyH_done (by kernel_rfl) ?_ _
  refine NoPanic.normal ?_
  clear hHeld hcb z0 z1 z2 s0 s1 f0 f1 p4 hoth hszr hb4 hb4' hb3 hb3' hbd hbd0 HC x0 x1 x2
  go_wp2_with fail
  refine bodyPost_ret (v:=.tuple #[.agg #[.string ⟨#[]⟩,.slice none 0 0],.int .i64 91]) ?_ rfl ⟨HE.out,rfl⟩
  simp[results,Tryz.results164,go_sem,r0,r1]
 ·have hR:some p=R:=HR.out
  subst hR
  go_enter Tryz.func164,Tryz.ntmps164
  go_wp2_with fail
  refine HK1.out.mono ?_
  rintro e w1 ⟨hb1,t2,A2,l2,k2,K2,m2,n2,rfl,hn2⟩
  have hcall:=HPA.out _ _ _ _ w1 hb1 hn2
  have HC:=hd_ hcall
  have HB1:=hd_ hb1
  clear hcall hb1 hn2 HK1 HPA x0 x1 x2
  go_wp2_with fail
  refine HC.out.mono ?_
  rintro e w2 ⟨hb2,A,c,rfl,h1,h2,hL⟩
  have hb2:=below_then HB1.out hb2 (lr_ _)
  obtain⟨L,hLe⟩:=nm_ ((List.map btxt (List.take 8 (kidF n 1).kids)).length)
  rw[hLe] at h1⊢
  have hw1:=HB1.out.size
  have hL:=hL.mono (S':=fun g=>w.heap.size+2≤g) (fun g hg=>by have:=HB.out.2.2;omega)
  have HLS:=hd_ (ai_ hLe (ai_ h1 (ai_ h2 hL)))
  clear hw1
  have HB2:=hd_ hb2
  obtain⟨x0,x1,x2⟩:=HX.out w2 hb2
  clear hb2 h1 h2 hL hLe HC HB1
  go_wp2_with fail
  try dsimp only
  refine wp_region_noPanic ?_
  refine wp_region_held_drew (S:=fun wx:World=>wx.cell? ⟨w.heap.size,0,none⟩=some (.int .u8 t)∧wx.cell? ⟨w.heap.size,1,none⟩=some (.slice A1 l1 k1)∧wx.cell? ⟨w.heap.size,2,none⟩=some (.slice K1 m1 n1)) mixed ⟨x0,x1,x2⟩ (fun hHeld=>?_)
  have hbd:=below_drew w2
  obtain⟨wd,hwd⟩:=nm_ (w2.drew)
  rw[hwd] at hHeld hbd⊢
  clear hwd
  have hbd0:=below_then HB2.out hbd (lr_ _)
  refine tk_ (i:=0) (z:=?_)
  refine tk_ (i:=1) (z:=?_)
  refine tk_ (i:=5) (z:=?_)
  refine on_ (i:=2) (z:=fun KK hKK=>?_)
  go_simp
  refine(HK0.out _ hbd0).mono ?_
  rintro e w3 ⟨hb3,t3,A3,l3,k3,K3,m3,n3,rfl,hn3⟩
  dsimp only
  obtain⟨g1,g2,g3,g4⟩:=body_size hn3
  have hcv:=intc.str_now g3 k3
  have hz:(strOfNums (kidF n 0).body).size≤maxLen:=by rw[strOfNums_size,g4];exact Nat.le_trans g1 g2
  have hfd:=fld1 t3 A3 l3 k3 K3 m3 n3
  have hb3':=below_then hbd hb3 (lr_ _)
  have hb3:=below_then hbd0 hb3 (lr_ _)
  have hpp:PrC (fun g=>w.heap.size+2≤g) w3 p (.string (strOfNums (kidF n 0).body)) (.slice A L c):=by
   rw[HT.out]
   exact⟨A,c,rfl,by show Value.slice A L c=Value.slice A (List.map btxt (List.take 8 (kidF n 1).kids)).length c;rw[HLS.out.1],by show(List.map btxt (List.take 8 (kidF n 1).kids)).length≤c;rw[HLS.out.1];exact HLS.out.2.1,HLS.out.2.2.1,HLS.out.2.2.2.below hb3',hz⟩
  obtain⟨s,hs⟩:=nm_ (strOfNums (kidF n 0).body)
  rw[hs] at hcv hpp
  have hcall:=HAS.out _ _ w3 hb3 (hpp.on (lr_ _) (fun _ _ _=>rfl) (fun _ _ _=>trivial))
  have HC:=hd_ hcall
  have HPP:=hd_ hpp
  clear hcall hs hz hn3 g1 g2 g3 g4
  refine hKK.out _ _ (HX.out w3 hb3) (fun hHeld=>?_)
  clear hKK KK
  try simp only[Act.put,qa_,qb_,qc_]
  refine tk_ (i:=3) (z:=?_)
  refine on_ (i:=4) (z:=fun KK hKK=>?_)
  go_simp
  refine hKK.out _ _ (HX.out w3 hb3) (fun hHeld=>?_)
  clear hKK KK
  try simp only[Act.put,qa_,qb_,qc_]
  refine tk_ (i:=6) (z:=?_)
  refine on_ (i:=7) (z:=fun KK hKK=>?_)
  go_simp
  refine HC.out.mono ?_
  rintro e w4 ⟨hb4,he⟩
  have he:e=.returned (.tuple #[.agg #[.string s,.slice A L c],.int .i64 0]):=he
  subst he
  dsimp only
  have hb4':=hb4
  have hb4:=below_then hb3 hb4 (lr_ _)
  refine hKK.out _ _ (HX.out w4 hb4) (fun hHeld=>?_)
  clear hKK KK
  try simp only[Act.put,qa_,qb_,qc_]
  refine tk_ (i:=8) (z:=?_)
  refine tk_ (i:=9) (z:=?_)
  have p4:=(hb4.block _ (by have:=HB.out.2.2;omega)).trans HB.out.2.1
  obtain⟨r0,r1,hBr,hoth,hszr⟩:=res2 (y0:=(.string s)) (y1:=(.slice A L c)) (Nat.le_succ _) (below_then HB.out.1 hb4 (lr_ _)) p4
  have f0:=fh_ p4 0
  have f1:=fh_ p4 1
  have s0:=(ch_ p4 0).trans rfl
  have s1:=(ch_ p4 1).trans rfl
  obtain⟨z0,z1,z2⟩:=HX.out w4 hb4
  have hcb:((w4.setCell ⟨w.heap.size+1,0,none⟩ (.string s)).setCell ⟨w.heap.size+1,1,none⟩ (.slice A L c)).cell? ⟨w.heap.size,0,none⟩=some (.int .u8 t)∧((w4.setCell ⟨w.heap.size+1,0,none⟩ (.string s)).setCell ⟨w.heap.size+1,1,none⟩ (.slice A L c)).cell? ⟨w.heap.size,1,none⟩=some (.slice A1 l1 k1)∧((w4.setCell ⟨w.heap.size+1,0,none⟩ (.string s)).setCell ⟨w.heap.size+1,1,none⟩ (.slice A L c)).cell? ⟨w.heap.size,2,none⟩=some (.slice K1 m1 n1):=
   ⟨(cell_same (hoth w.heap.size (by omega))).trans z0,(cell_same (hoth w.heap.size (by omega))).trans z1,(cell_same (hoth w.heap.size (by omega))).trans z2⟩
  have hpr2:PrC (fun g=>w.heap.size≤g) ((w4.setCell ⟨w.heap.size+1,0,none⟩ (.string s)).setCell ⟨w.heap.size+1,1,none⟩ (.slice A L c)) p (.string s) (.slice A L c):=
   (HPP.out.on (B':=fun g=>w.heap.size+2≤g) hb4'.size (fun g _ hg=>hb4'.block g hg) (fun g hg _=>hg)).on (by rw[hszr];exact lr_ _) (fun g hg _=>hoth g (by omega)) (fun g hg _=>by omega)
  have HE:=hd_ (ai_ hBr hpr2)
  refine on_ (i:=10) (z:=fun KK hKK=>?_)
  go_simp
  refine hKK.out _ _ hcb (fun hHeld=>?_)
  clear hKK KK
  try simp only[Act.put,qa_,qb_,qc_]
  refine tk_ (i:=11) (z:=?_)
  refine wpAnyH_done (by kernel_rfl) ?_ _
  refine NoPanic.normal ?_
  clear hHeld hcb z0 z1 z2 s0 s1 f0 f1 p4 hoth hszr hb4 hb4' hb3 hb3' hbd hbd0 HC x0 x1 x2
  go_wp2_with fail
  refine bodyPost_ret (v:=.tuple #[.agg #[.string s,.slice A L c],.int .i64 0]) ?_ rfl ⟨HE.out.1,s,A,L,c,rfl,HE.out.2⟩
  simp[results,Tryz.results164,go_sem,r0,r1]
theorem orZP_any (w:World):
 Calls Tryz.prog 159 #[.func (.func 160) #[] #[]] w fun e w'=>∃q,e=.returned (.func (.func 210) #[] #[.pointer (some ⟨q,0,none⟩)])∧w'.heap[q]? =some (.cells #[.func (.func 160) #[] #[]] 198)∧w.heap.size≤q∧Below w.heap.size w w':=by
 have hmf: ∀(fn:Fn) (first cap:Array Value) (w:World),(Instr.makeFunc fn first cap).run Tryz.prog w=.ok (.func fn first cap) w:=fun _ _ _ _=>rfl
 have HE:=hd_ (ai_ (heap_new_ w (.cells #[.func (.func 160) #[] #[]] 198)) (below_new w (.cells #[.func (.func 160) #[] #[]] 198)))
 go_enter Tryz.func159,Tryz.ntmps159
 go_wp2
 go_ret
 exact⟨_,rfl,HE.out.1,lr_ _,HE.out.2⟩
theorem orZN_any (w:World):
 Calls Tryz.prog 167 #[.func (.func 33) #[] #[]] w fun e w'=>∃q,e=.returned (.func (.func 217) #[] #[.pointer (some ⟨q,0,none⟩)])∧w'.heap[q]? =some (.cells #[.func (.func 33) #[] #[]] 68)∧w.heap.size≤q∧Below w.heap.size w w':=by
 have hmf: ∀(fn:Fn) (first cap:Array Value) (w:World),(Instr.makeFunc fn first cap).run Tryz.prog w=.ok (.func fn first cap) w:=fun _ _ _ _=>rfl
 have HE:=hd_ (ai_ (heap_new_ w (.cells #[.func (.func 33) #[] #[]] 68)) (below_new w (.cells #[.func (.func 33) #[] #[]] 68)))
 go_enter Tryz.func167,Tryz.ntmps167
 go_wp2
 go_ret
 exact⟨_,rfl,HE.out.1,lr_ _,HE.out.2⟩
theorem orZGP_any (w:World):
 Calls Tryz.prog 163 #[.func (.func 164) #[] #[]] w fun e w'=>∃q,e=.returned (.func (.func 213) #[] #[.pointer (some ⟨q,0,none⟩)])∧w'.heap[q]? =some (.cells #[.func (.func 164) #[] #[]] 202)∧w.heap.size≤q∧Below w.heap.size w w':=by
 have hmf: ∀(fn:Fn) (first cap:Array Value) (w:World),(Instr.makeFunc fn first cap).run Tryz.prog w=.ok (.func fn first cap) w:=fun _ _ _ _=>rfl
 have HE:=hd_ (ai_ (heap_new_ w (.cells #[.func (.func 164) #[] #[]] 202)) (below_new w (.cells #[.func (.func 164) #[] #[]] 202)))
 go_enter Tryz.func163,Tryz.ntmps163
 go_wp2
 go_ret
 exact⟨_,rfl,HE.out.1,lr_ _,HE.out.2⟩
theorem orZGN_any (w:World):
 Calls Tryz.prog 171 #[.func (.func 55) #[] #[]] w fun e w'=>∃q,e=.returned (.func (.func 220) #[] #[.pointer (some ⟨q,0,none⟩)])∧w'.heap[q]? =some (.cells #[.func (.func 55) #[] #[]] 89)∧w.heap.size≤q∧Below w.heap.size w w':=by
 have hmf: ∀(fn:Fn) (first cap:Array Value) (w:World),(Instr.makeFunc fn first cap).run Tryz.prog w=.ok (.func fn first cap) w:=fun _ _ _ _=>rfl
 have HE:=hd_ (ai_ (heap_new_ w (.cells #[.func (.func 55) #[] #[]] 89)) (below_new w (.cells #[.func (.func 55) #[] #[]] 89)))
 go_enter Tryz.func171,Tryz.ntmps171
 go_wp2
 go_ret
 exact⟨_,rfl,HE.out.1,lr_ _,HE.out.2⟩
theorem princZ_any (S:Nat→Prop)(p:Pr)(c0 c1:Value)(q:Nat)(w:World)(hp:PrC S w p c0 c1)(hq:w.heap[q]? =some (.cells #[.func (.func 160) #[] #[]] 198))(hT:Tabs w):
 Calls Tryz.prog 210 #[.agg #[c0,c1],.pointer (some ⟨q,0,none⟩)] w (NVal (fun g=>w.heap.size≤g) w (princZ p)):=by
 have hent:=enters_of Tryz.func160 (by kernel_rfl) rfl
 have hpc:=hp
 obtain⟨A,cap,rfl,rfl,_⟩:=hp
 obtain⟨len,hlen⟩:=nm_ (p.names.length)
 obtain⟨s,hs0⟩:=nm_ (p.realm)
 rw[hlen,hs0] at hpc⊢
 obtain⟨W0,hW0⟩:=nm_ ((w.alloc (.cells #[.string s,.slice A len cap] 107)).alloc (.cells #[.int .u8 0,.slice none 0 0,.slice none 0 0] 49))
 have hb0:Below w.heap.size w W0:=by rw[←hW0];exact(below_new _ _).alloc (by simp) _
 have hz0:W0.heap.size=w.heap.size+2:=by rw[←hW0];simp
 have p0:W0.heap[w.heap.size+1]? =some (.cells #[.int .u8 0,.slice none 0 0,.slice none 0 0] 49):=by rw[←hW0];exact heap_is (by simp)
 have q0:W0.heap[w.heap.size]? =some (.cells #[.string s,.slice A len cap] 107):=by rw[←hW0,heap_old_ _ _ (by simp)];exact heap_new_ _ _
 have b0:W0.cell? ⟨w.heap.size,0,none⟩=some (.string s):=(ch_ q0 _).trans rfl
 have b1:W0.cell? ⟨w.heap.size,1,none⟩=some (.slice A len cap):=(ch_ q0 _).trans rfl
 have hput:=putPrinc_any S p _ _ W0 (hpc.below hb0) (hT.below hb0)
 have hZ:princZ p=(princF p).getD zn:=by unfold princZ;rw[princF_of];split<;>rfl
 obtain⟨r,hr⟩:=nm_ (princF p)
 rw[hr] at hput hZ
 rw[hZ]
 have d0:W0.cell? ⟨q,0,none⟩=some (.func (.func 160) #[] #[]):=(ch_ ((hb0.block q (Array.getElem?_eq_some_iff.1 hq).1).trans hq) 0).trans rfl
 have HC:=hd_ hput
 have HB:=hd_ (ai_ hb0 (ai_ p0 hz0))
 clear hput hb0 p0 hz0 hr hZ hq hT hlen hs0 hpc
 go_enter Tryz.func210,Tryz.ntmps210
 go_wp2_with fail
 refine HC.out.mono ?_
 intro e w1 hpost
 obtain⟨hb1,t,A5,la5,ca5,K5,lk5,ck5,er,rfl,_,hn⟩:=hpost.anyS
 have hz:=HB.out.2.2
 obtain⟨W2,hW2⟩:=nm_ (w1.alloc (.cells #[.int .u8 t,.slice A5 la5 ca5,.slice K5 lk5 ck5] 49))
 have hb12:Below w1.heap.size w1 W2:=by rw[←hW2];exact below_new _ _
 have q2:W2.heap[w1.heap.size]? =some (.cells #[.int .u8 t,.slice A5 la5 ca5,.slice K5 lk5 ck5] 49):=by rw[←hW2];exact heap_new_ _ _
 have hb2:=below_then hb1 hb12 (lr_ _)
 have p2:=(hb2.block (w.heap.size+1) (by omega)).trans HB.out.2.1
 have hB2:=below_then HB.out.1 hb2 (lr_ _)
 obtain⟨y0,y1,y2⟩:=box_nd (br_ _ W2) q2
 obtain⟨r0,r1,r2,hB⟩:=res3 (b:=w.heap.size+1) (y0:=.int .u8 t) (y1:=.slice A5 la5 ca5) (y2:=.slice K5 lk5 ck5) (by omega) hB2 p2
 have hn2:=res3_nd (b:=w.heap.size+1) (y0:=.int .u8 t) (y1:=.slice A5 la5 ca5) (y2:=.slice K5 lk5 ck5) (fun g hg=>by omega) (NdC.below hb12 _ _ _ _ hn)
 have f0:=fh_ p2 0
 have f1:=fh_ p2 1
 have f2:=fh_ p2 2
 have s0:=(ch_ p2 0).trans rfl
 have s1:=(ch_ p2 1).trans rfl
 have s2:=(ch_ p2 2).trans rfl
 have HE:=hd_ (ai_ hB (NdC.mono (B':=fun g=>w.heap.size≤g) (fun g hg=>by omega) _ _ _ _ hn2))
 clear hB hn hn2 hb1 hb12 hb2 hB2 q2 p2 HC HB hz hpost d0 b0 b1
 go_wp2_with fail
 refine bodyPost_ret (v:=.agg #[.int .u8 t,.slice A5 la5 ca5,.slice K5 lk5 ck5]) ?_ rfl ⟨HE.out.1,_,_,_,_,_,_,_,rfl,HE.out.2⟩
 simp[results,Tryz.results210,go_sem,r0,r1,r2]
theorem nameZ_any (S:Nat→Prop)(l:List At)(A:Option Addr)(len cap:Nat)(q:Nat)(w:World)(hl:l.length=len)(hL:Lst atE S w A l)(hc:len≤cap)(hm:cap≤maxLen)(hq:w.heap[q]? =some (.cells #[.func (.func 33) #[] #[]] 68))(hT:Tabs w):
 Calls Tryz.prog 217 #[.slice A len cap,.pointer (some ⟨q,0,none⟩)] w (NVal (fun g=>w.heap.size≤g) w (nameZ l)):=by
 have hent:=enters_of Tryz.func33 (by kernel_rfl) rfl
 obtain⟨W0,hW0⟩:=nm_ (w.alloc (.cells #[.int .u8 0,.slice none 0 0,.slice none 0 0] 49))
 have hb0:Below w.heap.size w W0:=by rw[←hW0];exact below_new _ _
 have hz0:W0.heap.size=w.heap.size+1:=by rw[←hW0];simp
 have p0:W0.heap[w.heap.size]? =some (.cells #[.int .u8 0,.slice none 0 0,.slice none 0 0] 49):=by rw[←hW0];exact heap_new_ _ _
 have hput:=put_any S A len cap l W0 hl (hL.below hb0) hc hm (hT.below hb0)
 have hZ:nameZ l=(nameF l).getD zn:=by unfold nameZ;rw[nameF_of];split<;>rfl
 obtain⟨r,hr⟩:=nm_ (nameF l)
 rw[hr] at hput hZ
 rw[hZ]
 have d0:W0.cell? ⟨q,0,none⟩=some (.func (.func 33) #[] #[]):=(ch_ ((hb0.block q (Array.getElem?_eq_some_iff.1 hq).1).trans hq) 0).trans rfl
 have HC:=hd_ hput
 have HB:=hd_ (ai_ hb0 (ai_ p0 hz0))
 clear hput hb0 p0 hz0 hr hZ hq hT hl hL hc hm
 go_enter Tryz.func217,Tryz.ntmps217
 go_wp2_with fail
 refine HC.out.mono ?_
 intro e w1 hpost
 obtain⟨hb1,t,A5,la5,ca5,K5,lk5,ck5,er,rfl,_,hn⟩:=hpost.anyS
 have hz:=HB.out.2.2
 obtain⟨W2,hW2⟩:=nm_ (w1.alloc (.cells #[.int .u8 t,.slice A5 la5 ca5,.slice K5 lk5 ck5] 49))
 have hb12:Below w1.heap.size w1 W2:=by rw[←hW2];exact below_new _ _
 have q2:W2.heap[w1.heap.size]? =some (.cells #[.int .u8 t,.slice A5 la5 ca5,.slice K5 lk5 ck5] 49):=by rw[←hW2];exact heap_new_ _ _
 have hb2:=below_then hb1 hb12 (lr_ _)
 have p2:=(hb2.block (w.heap.size) (by omega)).trans HB.out.2.1
 have hB2:=below_then HB.out.1 hb2 (lr_ _)
 obtain⟨y0,y1,y2⟩:=box_nd (br_ _ W2) q2
 obtain⟨r0,r1,r2,hB⟩:=res3 (b:=w.heap.size) (y0:=.int .u8 t) (y1:=.slice A5 la5 ca5) (y2:=.slice K5 lk5 ck5) (lr_ _) hB2 p2
 have hn2:=res3_nd (b:=w.heap.size) (y0:=.int .u8 t) (y1:=.slice A5 la5 ca5) (y2:=.slice K5 lk5 ck5) (fun g hg=>by omega) (NdC.below hb12 _ _ _ _ hn)
 have f0:=fh_ p2 0
 have f1:=fh_ p2 1
 have f2:=fh_ p2 2
 have s0:=(ch_ p2 0).trans rfl
 have s1:=(ch_ p2 1).trans rfl
 have s2:=(ch_ p2 2).trans rfl
 have HE:=hd_ (ai_ hB (NdC.mono (B':=fun g=>w.heap.size≤g) (fun g hg=>by omega) _ _ _ _ hn2))
 clear hB hn hn2 hb1 hb12 hb2 hB2 q2 p2 HC HB hz hpost d0
 go_wp2_with fail
 refine bodyPost_ret (v:=.agg #[.int .u8 t,.slice A5 la5 ca5,.slice K5 lk5 ck5]) ?_ rfl ⟨HE.out.1,_,_,_,_,_,_,_,rfl,HE.out.2⟩
 simp[results,Tryz.results217,go_sem,r0,r1,r2]
theorem getNZ_any (B:Nat→Prop)(n:Nd)(c0 c1 c2:Value)(q:Nat)(w:World)(hn:NdC B w n c0 c1 c2)(hq:w.heap[q]? =some (.cells #[.func (.func 55) #[] #[]] 89))(hT:Tabs w):
 Calls Tryz.prog 220 #[.agg #[c0,c1,c2],.pointer (some ⟨q,0,none⟩)] w (LVal atE (fun g=>w.heap.size≤g) w (getNZ n)):=by
 have hent:=enters_of Tryz.func55 (by kernel_rfl) rfl
 obtain⟨t,A1,l1,k1,K1,m1,n1,rfl,rfl,rfl⟩:=hn.shape
 obtain⟨W0,hW0⟩:=nm_ (w.alloc (.cells #[.int .u8 t,.slice A1 l1 k1,.slice K1 m1 n1] 49))
 have hb0:Below w.heap.size w W0:=by rw[←hW0];exact below_new _ _
 have q0:W0.heap[w.heap.size]? =some (.cells #[.int .u8 t,.slice A1 l1 k1,.slice K1 m1 n1] 49):=by rw[←hW0];exact heap_new_ _ _
 obtain⟨x0,x1,x2⟩:=box_nd (br_ _ W0) q0
 have hget:=getF_any B n _ _ _ W0 (NdC.below hb0 _ _ _ _ hn) (hT.below hb0)
 have d0:W0.cell? ⟨q,0,none⟩=some (.func (.func 55) #[] #[]):=(ch_ ((hb0.block q (Array.getElem?_eq_some_iff.1 hq).1).trans hq) 0).trans rfl
 have HC:=hd_ hget
 have HB:=hd_ hb0
 clear hget hb0 q0 hq hT hn
 go_enter Tryz.func220,Tryz.ntmps220
 go_wp2_with fail
 refine HC.out.mono ?_
 intro e w1 hpost
 obtain⟨hb1,A5,l5,c5,er,rfl,hl5,h51,h52,hL5⟩:=hpost.any
 have HE:=hd_ (ai_ (below_then HB.out hb1 (lr_ _)) (hL5.mono (S':=fun g=>w.heap.size≤g) (fun g hg=>Nat.le_trans HB.out.size hg)))
 clear hb1 hL5 HC HB hpost d0 x0 x1 x2
 go_wp2
 go_ret
 exact⟨HE.out.1,A5,c5,by show Ending.returned (.slice A5 l5 c5)=.returned (.slice A5 ((getN n).getD []).length c5);rw[hl5],by show((getN n).getD []).length≤c5;rw[hl5];exact h51,h52,HE.out.2⟩
theorem getPZ_any (B:Nat→Prop)(n:Nd)(c0 c1 c2:Value)(q:Nat)(w:World)(hn:NdC B w n c0 c1 c2)(hq:w.heap[q]? =some (.cells #[.func (.func 164) #[] #[]] 202))(hT:Tabs w):
 Calls Tryz.prog 213 #[.agg #[c0,c1,c2],.pointer (some ⟨q,0,none⟩)] w (PVal (fun g=>w.heap.size≤g) w (getPZ n)):=by
 have hent:=enters_of Tryz.func164 (by kernel_rfl) rfl
 obtain⟨t,A1,l1,k1,K1,m1,n1,rfl,rfl,rfl⟩:=hn.shape
 obtain⟨W0,hW0⟩:=nm_ ((w.alloc (.cells #[.int .u8 t,.slice A1 l1 k1,.slice K1 m1 n1] 49)).alloc (.cells #[.string ⟨#[]⟩,.slice none 0 0] 107))
 have hb0:Below w.heap.size w W0:=by rw[←hW0];exact(below_new _ _).alloc (by simp) _
 have hz0:W0.heap.size=w.heap.size+2:=by rw[←hW0];simp
 have p0:W0.heap[w.heap.size+1]? =some (.cells #[.string ⟨#[]⟩,.slice none 0 0] 107):=by rw[←hW0];exact heap_is (by simp)
 have q0:W0.heap[w.heap.size]? =some (.cells #[.int .u8 t,.slice A1 l1 k1,.slice K1 m1 n1] 49):=by rw[←hW0,heap_old_ _ _ (by simp)];exact heap_new_ _ _
 obtain⟨x0,x1,x2⟩:=box_nd (br_ _ W0) q0
 have HP:=hd_ (ai_ p0 hz0)
 clear p0 hz0
 have hget:=getPrincF_any B n _ _ _ W0 (NdC.below hb0 _ _ _ _ hn) (hT.below hb0)
 have d0:W0.cell? ⟨q,0,none⟩=some (.func (.func 164) #[] #[]):=(ch_ ((hb0.block q (Array.getElem?_eq_some_iff.1 hq).1).trans hq) 0).trans rfl
 have HC:=hd_ hget
 have HB:=hd_ hb0
 clear hget hb0 q0 hq hT hn
 go_enter Tryz.func213,Tryz.ntmps213
 go_wp2_with fail
 refine HC.out.mono ?_
 intro e w1 hpost
 obtain⟨hb1,s5,A5,l5,c5,er,rfl,hp5⟩:=hpost.any
 have hz:=HP.out.2
 obtain⟨W2,hW2⟩:=nm_ (w1.alloc (.cells #[.string s5,.slice A5 l5 c5] 107))
 have hb12:Below w1.heap.size w1 W2:=by rw[←hW2];exact below_new _ _
 have q2:W2.heap[w1.heap.size]? =some (.cells #[.string s5,.slice A5 l5 c5] 107):=by rw[←hW2];exact heap_new_ _ _
 have hb2:=below_then hb1 hb12 (lr_ _)
 have p2:=(hb2.block (w.heap.size+1) (by omega)).trans HP.out.1
 have hB2:=below_then HB.out hb2 (lr_ _)
 have y0:=(ch_ q2 0).trans rfl
 have y1:=(ch_ q2 1).trans rfl
 obtain⟨r0,r1,hB,hoth,hsz⟩:=res2 (b:=w.heap.size+1) (y0:=.string s5) (y1:=.slice A5 l5 c5) (by omega) hB2 p2
 have hp6:PrC (fun g=>w.heap.size≤g) ((W2.setCell ⟨w.heap.size+1,0,none⟩ (.string s5)).setCell ⟨w.heap.size+1,1,none⟩ (.slice A5 l5 c5)) ((getP n).getD ⟨⟨#[]⟩,[]⟩) (.string s5) (.slice A5 l5 c5):=
  ((hp5.on (B':=fun g=>w.heap.size+2≤g) hb12.size (fun g _ hg=>hb12.block g hg) (fun g hg _=>by omega))).on (by rw[hsz];exact lr_ _) (fun g hg _=>hoth g (by omega)) (fun g hg _=>by omega)
 obtain⟨A6,c6,e6,e7,h61,h62,h63,h64⟩:=hp6
 simp only[Value.slice.injEq] at e7
 obtain⟨rfl,hl6,rfl⟩:=e7
 have f0:=fh_ p2 0
 have f1:=fh_ p2 1
 have s0:=(ch_ p2 0).trans rfl
 have s1:=(ch_ p2 1).trans rfl
 have HE:=hd_ (ai_ hB (ai_ h61 (ai_ h62 (ai_ h63 (ai_ h64 (ai_ e6 hl6))))))
 clear hB hoth hsz hp5 h61 h62 h63 h64 e6 hl6 hb1 hb12 hb2 hB2 q2 p2 HC HB HP hz hpost d0 x0 x1 x2
 go_wp2_with fail
 refine bodyPost_ret (v:=.agg #[.string s5,.slice A5 l5 c5]) ?_ rfl ⟨HE.out.1,A5,c5,?_,HE.out.2.1,HE.out.2.2.1,HE.out.2.2.2.1,HE.out.2.2.2.2.1⟩
 ·simp[results,Tryz.results213,go_sem,r0,r1]
 ·show Ending.returned (.agg #[.string s5,.slice A5 l5 c5])=.returned (.agg #[.string ((getP n).getD ⟨⟨#[]⟩,[]⟩).realm,.slice A5 ((getP n).getD ⟨⟨#[]⟩,[]⟩).names.length c5])
  rw[←HE.out.2.2.2.2.2.1,HE.out.2.2.2.2.2.2]
end Go.Proofs.YtjanfogifehhmaaGreatDoor.nmc
