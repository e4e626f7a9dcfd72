/- The program's each, at eight pairs of types. Names' Get and GetPrinc: what they tell lies in new memory. -/
import Derived.Test.YtkjkhoglkpepiaaGreatDoorAd
import Derived.Deep.RegionHeld3
set_option maxRecDepth 100000
set_option maxHeartbeats 8000000
set_option linter.unusedVariables false
set_option linter.unusedSimpArgs false
namespace Go.Proofs.YtkjkhoglkpepiaaGreatDoor.nmc
open Go.RowKit tlvc tlvd ndc txc txm intc intm
theorem OdC.mono {S S':Nat→Prop}{w:World}{o:Od}{c0 c1 c2:Value}(hS: ∀g,S g→S' g)(h:OdC S w o c0 c1 c2):OdC S' w o c0 c1 c2:=⟨h.1.mono hS,h.2.1,h.2.2.mono hS⟩
theorem Tryz.infoOdd:(Tryz.prog.info? 102).map (fun i=>(i.zero,i.size,i.bytes))=some (some (.agg #[.slice none 0 0,.bool false,.slice none 0 0]),3,56):=by kernel_rfl
theorem Tryz.infoInts:(Tryz.prog.info? 83).map (fun i=>(i.zero,i.size,i.bytes))=some (some (.slice none 0 0),1,24):=by kernel_rfl
theorem Tryz.infoName:(Tryz.prog.info? 23).map (fun i=>(i.zero,i.size,i.bytes))=some (some (.slice none 0 0),1,24):=by kernel_rfl
theorem Tryz.infoPrinc:(Tryz.prog.info? 117).map (fun i=>(i.zero,i.size,i.bytes))=some (some (.agg #[.string ⟨#[]⟩,.slice none 0 0]),2,40):=by kernel_rfl
theorem Tryz.infO:Inf Tryz.prog 28 102 odE.sz 56:=by
 obtain⟨i0,hi,hz0,hz1,hz2⟩:=info_parts Tryz.infoOdd
 exact⟨Tryz.underlying28,i0,_,hi,hz0,hz1,hz2,rfl⟩
theorem Tryz.infI:Inf Tryz.prog 25 83 inE.sz 24:=by
 obtain⟨i0,hi,hz0,hz1,hz2⟩:=info_parts Tryz.infoInts
 exact⟨Tryz.underlying25,i0,_,hi,hz0,hz1,hz2,rfl⟩
theorem Tryz.infNm:Inf Tryz.prog 27 23 nmE.sz 24:=by
 obtain⟨i0,hi,hz0,hz1,hz2⟩:=info_parts Tryz.infoName
 exact⟨Tryz.underlying27,i0,_,hi,hz0,hz1,hz2,rfl⟩
theorem Tryz.infP:Inf Tryz.prog 26 117 prE.sz 40:=by
 obtain⟨i0,hi,hz0,hz1,hz2⟩:=info_parts Tryz.infoPrinc
 exact⟨Tryz.underlying26,i0,_,hi,hz0,hz1,hz2,rfl⟩
theorem eachOdN (B:Nat→Prop)(G:Od→Nd)(f:FuncId)(A:Option Addr)(len cap:Nat)(xs:List (Od))(w:World)(hl:xs.length=len)(hL:Lst odE B w A xs)(hc:len≤cap)(hm:cap≤maxLen)(hlen:len≤1000)
 (hen: ∀args w,(callFunc f args).run Tryz.prog w=.ok (.enter f args) w)
 (hf: ∀x∈xs,∀(W:World),Below w.heap.size w W→∀c0 c1 c2:Value,odE.hold B W x [c0,c1,c2]→Calls Tryz.prog f #[.agg #[c0,c1,c2]] W (NVal (fun g=>W.heap.size≤g) W (G x))):
 Calls Tryz.prog 59 #[.slice A len cap,.func (.func f) #[] #[]] w (LVal ndE (fun g=>w.heap.size≤g) w (xs.map G)):=by
 have h9:cap≤9223372036854775807:=by unfold maxLen at hm;omega
 obtain⟨TL,hTL⟩:=nm_ (xs.map G)
 have hTL3:TL.length=len:=by rw[←hTL,List.length_map,hl]
 have hlk: ∀i,i≤len→((xs.take i).map G).length=i:=fun i hi=>by rw[List.length_map,List.length_take];omega
 rw[hTL]
 unfold LVal
 rw[hTL3]
 have HTL:=hd_ hTL
 have HL:=hd_ (ai_ hl (ai_ hL (ai_ hlk hf)))
 have HK:=hd_ hlen
 clear hl hL hlk hf hTL hTL3 hm hlen
 go_enter Tryz.func59,Tryz.ntmps59
 go_wp2_with fail
 go_loopg [5,10] (len+1) (fun gk s5 s10 wx=>∃(i:Nat) (Av:Option Addr) (cv:Nat),s5=.slice Av i cv∧s10=.int .i64 i∧i≤len∧len - i<gk∧Hid (LInv ndE 43 (fun g=>w.heap.size≤g) w (.slice Av i cv) ((xs.take i).map G) wx))
 case atStart=>exact⟨0,none,0,rfl,rfl,by omega,by omega,hd_ LInv.start⟩
 case round=>
  obtain⟨i,Av,cv,rfl,rfl,hi,hgk,HI⟩:=hrel
  by_cases hlt:i<len
  ·have hltz:(i:Int)< (len:Int):=by omega
   obtain⟨gk',rfl⟩: ∃g',gk=g'+1:=⟨gk - 1,by omega⟩
   have HN:=hd_ (ai_ (show i+1≤len from hlt) (show len - (i+1)<gk' by omega))
   have hix:i<xs.length:=by rw[HL.out.1];exact hlt
   obtain⟨g,off,cs,rfl,_,hcell,d0,d1,d2,rfl,⟨A1,l1,k1,rfl,hi0⟩,rfl,A2,l2,k2,rfl,hi2⟩:=(HL.out.2.1.below HI.out.bel).at i hix
   have e0:=hcell 0 _ rfl
   have e1:=hcell 1 _ rfl
   have e2:=hcell 2 _ rfl
   rw[show odE.sz=3 from rfl] at e0 e1 e2
   rw[Nat.add_zero] at e0
   obtain⟨b1,hb1⟩:=nm_ ((xs[i]).crit)
   rw[hb1] at e1
   clear hcell
   have hbx:Below wr.heap.size wr (wr.alloc (.cells #[.slice A1 l1 k1,.bool b1,.slice A2 l2 k2] 102)):=below_new _ _
   have hcall:=HL.out.2.2.2 xs[i] (List.getElem_mem hix) _ (below_then HI.out.bel hbx (lr_ _)) _ _ _ (El.below (E:=odE) ⟨_,_,_,rfl,⟨A1,l1,k1,rfl,hi0⟩,by rw[hb1],A2,l2,k2,rfl,hi2⟩ hbx)
   have hnx:(xs.take i).map G++[G xs[i]]=(xs.take (i+1)).map G:=by rw[List.take_succ_eq_append_getElem hix,List.map_append,List.map_cons,List.map_nil]
   have hlk:=HL.out.2.2.1 i hi
   have HC:=hd_ hcall
   have HB:=hd_ hbx
   clear hcall hbx hgk hi0 hi2 hb1
   go_wp2_with fail
   refine HC.out.mono ?_
   rintro e w2 ⟨hb2,t3,A3,l3,c3,K3,m3,n3,rfl,hold⟩
   have h0:=HB.out.size
   have hwz:=HI.out.bel.size
   have hb3:=below_then HB.out hb2 (lr_ _)
   have hk1000:=HK.out
   obtain⟨A7,c7,w7,hrun,hI7⟩:=HI.out.push Tryz.infN (fun g hg=>hg) (below_then hb3 (below_new w2 (.cells #[.int .u8 t3,.slice A3 l3 c3,.slice K3 m3 n3] 43)) (lr_ _)) (x:=G xs[i]) (news:=[.int .u8 t3,.slice A3 l3 c3,.slice K3 m3 n3]) (⟨_,_,_,rfl,NdC.mono (fun g hg=>(fun g (hg:(wr.alloc (.cells #[.slice A1 l1 k1,.bool b1,.slice A2 l2 k2] 102)).heap.size≤g)=>(⟨Nat.le_trans hwz (Nat.le_trans h0 hg),.inr (Nat.le_trans h0 hg)⟩:w.heap.size≤g∧(g<w.heap.size∨wr.heap.size≤g))) g hg) _ _ _ _ (NdC.below (below_new _ _) _ _ _ _ hold)⟩) (g1:=w2.heap.size) hb3.size (heap_new_ _ _) (fun j u hu=>by
    simpa using hu) (by rw[hlk];omega) (by rw[hlk];unfold maxLen;omega)
   rw[hlk] at hrun hI7
   rw[hnx] at hI7
   have HI7:=hd_ hI7
   clear hI7 hnx hlk e0 e1 e2 HC HB hb2 hb3 hold h0 hwz hk1000
   go_wp2_with (at_builtin;refine wpl_append rfl (.tmp 14) (.tmp 18) 41 rfl _ _ _ rfl rfl hrun ?_)
   clear hrun
   go_wp2
   go_roundg gk'
   case measure=>omega
   case rel=>exact⟨i+1,A7,c7,rfl,by go_num,HN.out.1,HN.out.2,HI7⟩
  ·obtain rfl:len=i:=by omega
   have hltz: ¬(len:Int)< (len:Int):=by omega
   obtain⟨A2,c2,e2,h1,h2,hLn⟩:=HI.out.row.lst (fun g hg=>hg)
   have hlk:=HL.out.2.2.1 len (lr_ _)
   rw[hlk] at e2 h1
   simp only[Value.slice.injEq] at e2
   obtain⟨rfl,_,rfl⟩:=e2
   rw[List.take_of_length_le (by rw[HL.out.1];exact lr_ _),HTL.out] at hLn
   have HF:=hd_ (ai_ HI.out.bel (ai_ h1 (ai_ h2 hLn)))
   clear h1 h2 hLn hgk hlk
   go_wp2
   go_ret
   exact⟨HF.out.1,Av,cv,rfl,HF.out.2.1,HF.out.2.2.1,HF.out.2.2.2⟩
theorem eachInN (B:Nat→Prop)(G:List Int→Nd)(f:FuncId)(A:Option Addr)(len cap:Nat)(xs:List (List Int))(w:World)(hl:xs.length=len)(hL:Lst inE B w A xs)(hc:len≤cap)(hm:cap≤maxLen)(hlen:len≤1000)
 (hen: ∀args w,(callFunc f args).run Tryz.prog w=.ok (.enter f args) w)
 (hf: ∀x∈xs,∀(W:World),Below w.heap.size w W→∀c0:Value,inE.hold B W x [c0]→Calls Tryz.prog f #[c0] W (NVal (fun g=>W.heap.size≤g) W (G x))):
 Calls Tryz.prog 119 #[.slice A len cap,.func (.func f) #[] #[]] w (LVal ndE (fun g=>w.heap.size≤g) w (xs.map G)):=by
 have h9:cap≤9223372036854775807:=by unfold maxLen at hm;omega
 obtain⟨TL,hTL⟩:=nm_ (xs.map G)
 have hTL3:TL.length=len:=by rw[←hTL,List.length_map,hl]
 have hlk: ∀i,i≤len→((xs.take i).map G).length=i:=fun i hi=>by rw[List.length_map,List.length_take];omega
 rw[hTL]
 unfold LVal
 rw[hTL3]
 have HTL:=hd_ hTL
 have HL:=hd_ (ai_ hl (ai_ hL (ai_ hlk hf)))
 have HK:=hd_ hlen
 clear hl hL hlk hf hTL hTL3 hm hlen
 go_enter Tryz.func119,Tryz.ntmps119
 go_wp2_with fail
 go_loopg [5,10] (len+1) (fun gk s5 s10 wx=>∃(i:Nat) (Av:Option Addr) (cv:Nat),s5=.slice Av i cv∧s10=.int .i64 i∧i≤len∧len - i<gk∧Hid (LInv ndE 43 (fun g=>w.heap.size≤g) w (.slice Av i cv) ((xs.take i).map G) wx))
 case atStart=>exact⟨0,none,0,rfl,rfl,by omega,by omega,hd_ LInv.start⟩
 case round=>
  obtain⟨i,Av,cv,rfl,rfl,hi,hgk,HI⟩:=hrel
  by_cases hlt:i<len
  ·have hltz:(i:Int)< (len:Int):=by omega
   obtain⟨gk',rfl⟩: ∃g',gk=g'+1:=⟨gk - 1,by omega⟩
   have HN:=hd_ (ai_ (show i+1≤len from hlt) (show len - (i+1)<gk' by omega))
   have hix:i<xs.length:=by rw[HL.out.1];exact hlt
   obtain⟨g,off,cs,rfl,_,hcell,d0,rfl,A1,l1,k1,rfl,hi0⟩:=(HL.out.2.1.below HI.out.bel).at i hix
   have e0:=hcell 0 _ rfl
   rw[show inE.sz=1 from rfl,Nat.mul_one,Nat.add_zero] at e0
   clear hcell
   have hbx:Below wr.heap.size wr (wr):=br_ _ _
   have hcall:=HL.out.2.2.2 xs[i] (List.getElem_mem hix) _ (below_then HI.out.bel hbx (lr_ _)) _ (El.below (E:=inE) ⟨_,rfl,A1,l1,k1,rfl,hi0⟩ hbx)
   have hnx:(xs.take i).map G++[G xs[i]]=(xs.take (i+1)).map G:=by rw[List.take_succ_eq_append_getElem hix,List.map_append,List.map_cons,List.map_nil]
   have hlk:=HL.out.2.2.1 i hi
   have HC:=hd_ hcall
   have HB:=hd_ hbx
   clear hcall hbx hgk hi0
   go_wp2_with fail
   refine HC.out.mono ?_
   rintro e w2 ⟨hb2,t3,A3,l3,c3,K3,m3,n3,rfl,hold⟩
   have h0:=HB.out.size
   have hwz:=HI.out.bel.size
   have hb3:=below_then HB.out hb2 (lr_ _)
   have hk1000:=HK.out
   obtain⟨A7,c7,w7,hrun,hI7⟩:=HI.out.push Tryz.infN (fun g hg=>hg) (below_then hb3 (below_new w2 (.cells #[.int .u8 t3,.slice A3 l3 c3,.slice K3 m3 n3] 43)) (lr_ _)) (x:=G xs[i]) (news:=[.int .u8 t3,.slice A3 l3 c3,.slice K3 m3 n3]) (⟨_,_,_,rfl,NdC.mono (fun g hg=>(fun g (hg:(wr).heap.size≤g)=>(⟨Nat.le_trans hwz (Nat.le_trans h0 hg),.inr (Nat.le_trans h0 hg)⟩:w.heap.size≤g∧(g<w.heap.size∨wr.heap.size≤g))) g hg) _ _ _ _ (NdC.below (below_new _ _) _ _ _ _ hold)⟩) (g1:=w2.heap.size) hb3.size (heap_new_ _ _) (fun j u hu=>by
    simpa using hu) (by rw[hlk];omega) (by rw[hlk];unfold maxLen;omega)
   rw[hlk] at hrun hI7
   rw[hnx] at hI7
   have HI7:=hd_ hI7
   clear hI7 hnx hlk e0 HC HB hb2 hb3 hold h0 hwz hk1000
   go_wp2_with (at_builtin;refine wpl_append rfl (.tmp 14) (.tmp 18) 41 rfl _ _ _ rfl rfl hrun ?_)
   clear hrun
   go_wp2
   go_roundg gk'
   case measure=>omega
   case rel=>exact⟨i+1,A7,c7,rfl,by go_num,HN.out.1,HN.out.2,HI7⟩
  ·obtain rfl:len=i:=by omega
   have hltz: ¬(len:Int)< (len:Int):=by omega
   obtain⟨A2,c2,e2,h1,h2,hLn⟩:=HI.out.row.lst (fun g hg=>hg)
   have hlk:=HL.out.2.2.1 len (lr_ _)
   rw[hlk] at e2 h1
   simp only[Value.slice.injEq] at e2
   obtain⟨rfl,_,rfl⟩:=e2
   rw[List.take_of_length_le (by rw[HL.out.1];exact lr_ _),HTL.out] at hLn
   have HF:=hd_ (ai_ HI.out.bel (ai_ h1 (ai_ h2 hLn)))
   clear h1 h2 hLn hgk hlk
   go_wp2
   go_ret
   exact⟨HF.out.1,Av,cv,rfl,HF.out.2.1,HF.out.2.2.1,HF.out.2.2.2⟩
theorem eachPrN (B:Nat→Prop)(G:Pr→Nd)(f:FuncId)(q:Value)(A:Option Addr)(len cap:Nat)(xs:List (Pr))(w:World)(hl:xs.length=len)(hL:Lst prE B w A xs)(hc:len≤cap)(hm:cap≤maxLen)(hlen:len≤1000)
 (hen: ∀args w,(callFunc f args).run Tryz.prog w=.ok (.enter f args) w)
 (hf: ∀x∈xs,∀(W:World),Below w.heap.size w W→∀c0 c1:Value,prE.hold B W x [c0,c1]→Calls Tryz.prog f #[.agg #[c0,c1],q] W (NVal (fun g=>W.heap.size≤g) W (G x))):
 Calls Tryz.prog 126 #[.slice A len cap,.func (.func f) #[] #[q]] w (LVal ndE (fun g=>w.heap.size≤g) w (xs.map G)):=by
 have h9:cap≤9223372036854775807:=by unfold maxLen at hm;omega
 obtain⟨TL,hTL⟩:=nm_ (xs.map G)
 have hTL3:TL.length=len:=by rw[←hTL,List.length_map,hl]
 have hlk: ∀i,i≤len→((xs.take i).map G).length=i:=fun i hi=>by rw[List.length_map,List.length_take];omega
 rw[hTL]
 unfold LVal
 rw[hTL3]
 have HTL:=hd_ hTL
 have HL:=hd_ (ai_ hl (ai_ hL (ai_ hlk hf)))
 have HK:=hd_ hlen
 clear hl hL hlk hf hTL hTL3 hm hlen
 go_enter Tryz.func126,Tryz.ntmps126
 go_wp2_with fail
 go_loopg [5,10] (len+1) (fun gk s5 s10 wx=>∃(i:Nat) (Av:Option Addr) (cv:Nat),s5=.slice Av i cv∧s10=.int .i64 i∧i≤len∧len - i<gk∧Hid (LInv ndE 43 (fun g=>w.heap.size≤g) w (.slice Av i cv) ((xs.take i).map G) wx))
 case atStart=>exact⟨0,none,0,rfl,rfl,by omega,by omega,hd_ LInv.start⟩
 case round=>
  obtain⟨i,Av,cv,rfl,rfl,hi,hgk,HI⟩:=hrel
  by_cases hlt:i<len
  ·have hltz:(i:Int)< (len:Int):=by omega
   obtain⟨gk',rfl⟩: ∃g',gk=g'+1:=⟨gk - 1,by omega⟩
   have HN:=hd_ (ai_ (show i+1≤len from hlt) (show len - (i+1)<gk' by omega))
   have hix:i<xs.length:=by rw[HL.out.1];exact hlt
   obtain⟨g,off,cs,rfl,_,hcell,d0,d1,rfl,A1,k1,rfl,rfl,hi0⟩:=(HL.out.2.1.below HI.out.bel).at i hix
   have e0:=hcell 0 _ rfl
   have e1:=hcell 1 _ rfl
   rw[show prE.sz=2 from rfl] at e0 e1
   rw[Nat.add_zero] at e0
   obtain⟨l1,hl1⟩:=nm_ ((xs[i]).names.length)
   obtain⟨s1,hs1⟩:=nm_ ((xs[i]).realm)
   rw[hl1] at e1
   rw[hs1] at e0
   clear hcell
   have hbx:Below wr.heap.size wr (wr.alloc (.cells #[.string s1,.slice A1 l1 k1] 117)):=below_new _ _
   have hcall:=HL.out.2.2.2 xs[i] (List.getElem_mem hix) _ (below_then HI.out.bel hbx (lr_ _)) _ _ (El.below (E:=prE) ⟨_,_,rfl,A1,k1,by rw[hs1],by rw[hl1],hi0⟩ hbx)
   have hnx:(xs.take i).map G++[G xs[i]]=(xs.take (i+1)).map G:=by rw[List.take_succ_eq_append_getElem hix,List.map_append,List.map_cons,List.map_nil]
   have hlk:=HL.out.2.2.1 i hi
   have HC:=hd_ hcall
   have HB:=hd_ hbx
   clear hcall hbx hgk hi0 hl1 hs1
   go_wp2_with fail
   refine HC.out.mono ?_
   rintro e w2 ⟨hb2,t3,A3,l3,c3,K3,m3,n3,rfl,hold⟩
   have h0:=HB.out.size
   have hwz:=HI.out.bel.size
   have hb3:=below_then HB.out hb2 (lr_ _)
   have hk1000:=HK.out
   obtain⟨A7,c7,w7,hrun,hI7⟩:=HI.out.push Tryz.infN (fun g hg=>hg) (below_then hb3 (below_new w2 (.cells #[.int .u8 t3,.slice A3 l3 c3,.slice K3 m3 n3] 43)) (lr_ _)) (x:=G xs[i]) (news:=[.int .u8 t3,.slice A3 l3 c3,.slice K3 m3 n3]) (⟨_,_,_,rfl,NdC.mono (fun g hg=>(fun g (hg:(wr.alloc (.cells #[.string s1,.slice A1 l1 k1] 117)).heap.size≤g)=>(⟨Nat.le_trans hwz (Nat.le_trans h0 hg),.inr (Nat.le_trans h0 hg)⟩:w.heap.size≤g∧(g<w.heap.size∨wr.heap.size≤g))) g hg) _ _ _ _ (NdC.below (below_new _ _) _ _ _ _ hold)⟩) (g1:=w2.heap.size) hb3.size (heap_new_ _ _) (fun j u hu=>by
    simpa using hu) (by rw[hlk];omega) (by rw[hlk];unfold maxLen;omega)
   rw[hlk] at hrun hI7
   rw[hnx] at hI7
   have HI7:=hd_ hI7
   clear hI7 hnx hlk e0 e1 HC HB hb2 hb3 hold h0 hwz hk1000
   go_wp2_with (at_builtin;refine wpl_append rfl (.tmp 14) (.tmp 18) 41 rfl _ _ _ rfl rfl hrun ?_)
   clear hrun
   go_wp2
   go_roundg gk'
   case measure=>omega
   case rel=>exact⟨i+1,A7,c7,rfl,by go_num,HN.out.1,HN.out.2,HI7⟩
  ·obtain rfl:len=i:=by omega
   have hltz: ¬(len:Int)< (len:Int):=by omega
   obtain⟨A2,c2,e2,h1,h2,hLn⟩:=HI.out.row.lst (fun g hg=>hg)
   have hlk:=HL.out.2.2.1 len (lr_ _)
   rw[hlk] at e2 h1
   simp only[Value.slice.injEq] at e2
   obtain⟨rfl,_,rfl⟩:=e2
   rw[List.take_of_length_le (by rw[HL.out.1];exact lr_ _),HTL.out] at hLn
   have HF:=hd_ (ai_ HI.out.bel (ai_ h1 (ai_ h2 hLn)))
   clear h1 h2 hLn hgk hlk
   go_wp2
   go_ret
   exact⟨HF.out.1,Av,cv,rfl,HF.out.2.1,HF.out.2.2.1,HF.out.2.2.2⟩
theorem eachNmN (B:Nat→Prop)(G:List At→Nd)(f:FuncId)(q:Value)(A:Option Addr)(len cap:Nat)(xs:List (List At))(w:World)(hl:xs.length=len)(hL:Lst nmE B w A xs)(hc:len≤cap)(hm:cap≤maxLen)(hlen:len≤1000)
 (hen: ∀args w,(callFunc f args).run Tryz.prog w=.ok (.enter f args) w)
 (hf: ∀x∈xs,∀(W:World),Below w.heap.size w W→∀c0:Value,nmE.hold B W x [c0]→Calls Tryz.prog f #[c0,q] W (NVal (fun g=>W.heap.size≤g) W (G x))):
 Calls Tryz.prog 134 #[.slice A len cap,.func (.func f) #[] #[q]] w (LVal ndE (fun g=>w.heap.size≤g) w (xs.map G)):=by
 have h9:cap≤9223372036854775807:=by unfold maxLen at hm;omega
 obtain⟨TL,hTL⟩:=nm_ (xs.map G)
 have hTL3:TL.length=len:=by rw[←hTL,List.length_map,hl]
 have hlk: ∀i,i≤len→((xs.take i).map G).length=i:=fun i hi=>by rw[List.length_map,List.length_take];omega
 rw[hTL]
 unfold LVal
 rw[hTL3]
 have HTL:=hd_ hTL
 have HL:=hd_ (ai_ hl (ai_ hL (ai_ hlk hf)))
 have HK:=hd_ hlen
 clear hl hL hlk hf hTL hTL3 hm hlen
 go_enter Tryz.func134,Tryz.ntmps134
 go_wp2_with fail
 go_loopg [5,10] (len+1) (fun gk s5 s10 wx=>∃(i:Nat) (Av:Option Addr) (cv:Nat),s5=.slice Av i cv∧s10=.int .i64 i∧i≤len∧len - i<gk∧Hid (LInv ndE 43 (fun g=>w.heap.size≤g) w (.slice Av i cv) ((xs.take i).map G) wx))
 case atStart=>exact⟨0,none,0,rfl,rfl,by omega,by omega,hd_ LInv.start⟩
 case round=>
  obtain⟨i,Av,cv,rfl,rfl,hi,hgk,HI⟩:=hrel
  by_cases hlt:i<len
  ·have hltz:(i:Int)< (len:Int):=by omega
   obtain⟨gk',rfl⟩: ∃g',gk=g'+1:=⟨gk - 1,by omega⟩
   have HN:=hd_ (ai_ (show i+1≤len from hlt) (show len - (i+1)<gk' by omega))
   have hix:i<xs.length:=by rw[HL.out.1];exact hlt
   obtain⟨g,off,cs,rfl,_,hcell,d0,rfl,A1,k1,rfl,hi0⟩:=(HL.out.2.1.below HI.out.bel).at i hix
   have e0:=hcell 0 _ rfl
   rw[show nmE.sz=1 from rfl,Nat.mul_one,Nat.add_zero] at e0
   obtain⟨l1,hl1⟩:=nm_ ((xs[i]).length)
   rw[hl1] at e0
   clear hcell
   have hbx:Below wr.heap.size wr (wr):=br_ _ _
   have hcall:=HL.out.2.2.2 xs[i] (List.getElem_mem hix) _ (below_then HI.out.bel hbx (lr_ _)) _ (El.below (E:=nmE) ⟨_,rfl,A1,k1,by rw[hl1],hi0⟩ hbx)
   have hnx:(xs.take i).map G++[G xs[i]]=(xs.take (i+1)).map G:=by rw[List.take_succ_eq_append_getElem hix,List.map_append,List.map_cons,List.map_nil]
   have hlk:=HL.out.2.2.1 i hi
   have HC:=hd_ hcall
   have HB:=hd_ hbx
   clear hcall hbx hgk hi0 hl1
   go_wp2_with fail
   refine HC.out.mono ?_
   rintro e w2 ⟨hb2,t3,A3,l3,c3,K3,m3,n3,rfl,hold⟩
   have h0:=HB.out.size
   have hwz:=HI.out.bel.size
   have hb3:=below_then HB.out hb2 (lr_ _)
   have hk1000:=HK.out
   obtain⟨A7,c7,w7,hrun,hI7⟩:=HI.out.push Tryz.infN (fun g hg=>hg) (below_then hb3 (below_new w2 (.cells #[.int .u8 t3,.slice A3 l3 c3,.slice K3 m3 n3] 43)) (lr_ _)) (x:=G xs[i]) (news:=[.int .u8 t3,.slice A3 l3 c3,.slice K3 m3 n3]) (⟨_,_,_,rfl,NdC.mono (fun g hg=>(fun g (hg:(wr).heap.size≤g)=>(⟨Nat.le_trans hwz (Nat.le_trans h0 hg),.inr (Nat.le_trans h0 hg)⟩:w.heap.size≤g∧(g<w.heap.size∨wr.heap.size≤g))) g hg) _ _ _ _ (NdC.below (below_new _ _) _ _ _ _ hold)⟩) (g1:=w2.heap.size) hb3.size (heap_new_ _ _) (fun j u hu=>by
    simpa using hu) (by rw[hlk];omega) (by rw[hlk];unfold maxLen;omega)
   rw[hlk] at hrun hI7
   rw[hnx] at hI7
   have HI7:=hd_ hI7
   clear hI7 hnx hlk e0 HC HB hb2 hb3 hold h0 hwz hk1000
   go_wp2_with (at_builtin;refine wpl_append rfl (.tmp 14) (.tmp 18) 41 rfl _ _ _ rfl rfl hrun ?_)
   clear hrun
   go_wp2
   go_roundg gk'
   case measure=>omega
   case rel=>exact⟨i+1,A7,c7,rfl,by go_num,HN.out.1,HN.out.2,HI7⟩
  ·obtain rfl:len=i:=by omega
   have hltz: ¬(len:Int)< (len:Int):=by omega
   obtain⟨A2,c2,e2,h1,h2,hLn⟩:=HI.out.row.lst (fun g hg=>hg)
   have hlk:=HL.out.2.2.1 len (lr_ _)
   rw[hlk] at e2 h1
   simp only[Value.slice.injEq] at e2
   obtain⟨rfl,_,rfl⟩:=e2
   rw[List.take_of_length_le (by rw[HL.out.1];exact lr_ _),HTL.out] at hLn
   have HF:=hd_ (ai_ HI.out.bel (ai_ h1 (ai_ h2 hLn)))
   clear h1 h2 hLn hgk hlk
   go_wp2
   go_ret
   exact⟨HF.out.1,Av,cv,rfl,HF.out.2.1,HF.out.2.2.1,HF.out.2.2.2⟩
end Go.Proofs.YtkjkhoglkpepiaaGreatDoor.nmc
set_option maxRecDepth 100000
set_option maxHeartbeats 4000000
set_option linter.unusedVariables false
set_option linter.unusedSimpArgs false
namespace Go.Proofs.YtkjkhoglkpepiaaGreatDoor.nmc
open Go.RowKit tlvc tlvd ndc txc txm intc intm
def GetPostF (w:World)(r:Option (List At))(e:Ending)(w':World):Prop:=
 Below w.heap.size w w'∧match r with
  |none=>e=.returned (.tuple #[.slice none 0 0,.int .i64 91])
  |some l=>∃A c,e=.returned (.tuple #[.slice A l.length c,.int .i64 0])∧l.length≤c∧c≤maxLen∧Lst atE (fun g=>w.heap.size≤g) w' A l
def GetPPostF (w:World)(r:Option Pr)(e:Ending)(w':World):Prop:=
 Below w.heap.size w w'∧match r with
  |none=>e=.returned (.tuple #[.agg #[.string ⟨#[]⟩,.slice none 0 0],.int .i64 91])
  |some p=>∃s A l c,e=.returned (.tuple #[.agg #[.string s,.slice A l c],.int .i64 0])∧PrC (fun g=>w.heap.size≤g) w' p (.string s) (.slice A l c)
theorem GetPostF.any {w:World}{r:Option (List At)}{e:Ending}{w':World}(h:GetPostF w r e w'):Below w.heap.size w w'∧∃A l c er,e=.returned (.tuple #[.slice A l c,.int .i64 er])∧(r.getD []).length=l∧l≤c∧c≤maxLen∧Lst atE (fun g=>w.heap.size≤g) w' A (r.getD []):=by
 obtain⟨hb,h⟩:=h
 refine⟨hb,?_⟩
 cases r with
 |none=>exact⟨_,_,_,_,h,rfl,lr_ _,Nat.zero_le _,Lst.nil _ _ _⟩
 |some n=>
  obtain⟨A,c,e,h1,h2,h3⟩:=h
  exact⟨A,_,c,_,e,rfl,h1,h2,h3⟩
theorem GetPPostF.any {w:World}{r:Option Pr}{e:Ending}{w':World}(h:GetPPostF w r e w'):Below w.heap.size w w'∧∃s A l c er,e=.returned (.tuple #[.agg #[.string s,.slice A l c],.int .i64 er])∧PrC (fun g=>w.heap.size≤g) w' (r.getD ⟨⟨#[]⟩,[]⟩) (.string s) (.slice A l c):=by
 obtain⟨hb,h⟩:=h
 refine⟨hb,?_⟩
 cases r with
 |none=>exact⟨_,_,_,_,_,h,none,0,rfl,rfl,lr_ _,Nat.zero_le _,Lst.nil _ _ _,Nat.zero_le _⟩
 |some p=>
  obtain⟨s,A,l,c,e,h1⟩:=h
  exact⟨s,A,l,c,_,e,h1⟩
theorem getF_any (B:Nat→Prop)(n:Nd)(c0 c1 c2:Value)(w:World)(hn:NdC B w n c0 c1 c2)(hT:Tabs w):
 Calls Tryz.prog 43 #[.agg #[c0,c1,c2]] w (GetPostF w (getN n)):=by
 obtain⟨t,A1,l1,k1,K1,m1,n1,rfl,rfl,rfl⟩:=hn.shape
 obtain⟨W0,hW0⟩:=nm_ (w.alloc (.cells #[.int .u8 t,.slice A1 l1 k1,.slice K1 m1 n1] 43))
 have hb0:Below w.heap.size w W0:=by rw[←hW0];exact below_new _ _
 have q0:W0.heap[w.heap.size]? =some (.cells #[.int .u8 t,.slice A1 l1 k1,.slice K1 m1 n1] 43):=by rw[←hW0];exact heap_new_ _ _
 obtain⟨x0,x1,x2⟩:=box_nd (br_ _ W0) q0
 have hpt:=partsA_any B n _ _ _ W0 (NdC.below hb0 _ _ _ _ hn)
 rw[show(n.kids.take 8).map toldA=toldN n from rfl] at hpt
 rw[getN_back]
 obtain⟨l,hl⟩:=nm_ (toldN n)
 rw[hl] at hpt⊢
 have hap:=fun(A:Option Addr) (c:Nat) (W:World) (hW:Below w.heap.size w W) (h1:l.length≤c) (h2:c≤maxLen) (hL:Lst atE (fun g=>w.heap.size≤g) W A l)=>asPutN_any B (fun g=>w.heap.size≤g) n A l.length c l _ _ _ W (NdC.below hW _ _ _ _ hn) rfl hL h1 h2 (hT.below hW)
 obtain⟨bk,hbk⟩:=nm_ (backN l n)
 rw[hbk] at hap⊢
 obtain⟨R,hR⟩:=nm_ ((if bk=true then some l else none))
 rw[hR]
 have HR:=hd_ hR
 have HP:=hd_ hpt
 have HA:=hd_ hap
 have HB:=hd_ (ai_ hb0 q0)
 clear hpt hap hb0 q0 hl hbk hn hT hR
 go_enter Tryz.func43,Tryz.ntmps43
 go_wp2_with fail
 refine HP.out.mono ?_
 rintro e w1 ⟨hb1,A,c,rfl,h1,h2,hL⟩
 have hL:=hL.mono (S':=fun g=>w.heap.size≤g) (fun g hg=>Nat.le_trans HB.out.1.size hg)
 have hbw:=below_then HB.out.1 hb1 (lr_ _)
 clear x0 x1 x2
 obtain⟨x0,x1,x2⟩:=box_nd hb1 HB.out.2
 have hcall:=HA.out A c w1 hbw h1 h2 hL
 have HC:=hd_ hcall
 have HW:=hd_ (ai_ hbw (ai_ h1 (ai_ h2 hL)))
 obtain⟨ll,hll⟩:=nm_ (l.length)
 rw[hll] at HC HW⊢
 have HLL:=hd_ hll
 clear hcall hbw hb1 h1 h2 hL HP HA HB hll
 go_wp2_with fail
 refine HC.out.mono ?_
 rintro e w2 ⟨hb2,he⟩
 have HF:=hd_ (below_then HW.out.1 hb2 (lr_ _))
 have HL:=hd_ (HW.out.2.2.2.below hb2)
 clear hb2 HC x0 x1 x2
 cases bk
 ·have he:e=.returned (.tuple #[.slice none 0 0,.int .i64 91]):=he
  have hR:none=R:=HR.out
  subst hR
  subst he
  go_wp2
  go_ret2
  exact⟨HF.out,rfl⟩
 ·have he:e=.returned (.tuple #[.slice A ll c,.int .i64 0]):=he
  have hR:some l=R:=HR.out
  subst hR
  subst he
  go_wp2
  go_ret2
  exact⟨HF.out,A,c,by rw[HLL.out];rfl,by rw[HLL.out];exact HW.out.2.1,HW.out.2.2.1,HL.out⟩
theorem orZP_any (w:World):
 Calls Tryz.prog 127 #[.func (.func 128) #[] #[]] w fun e w'=>∃q,e=.returned (.func (.func 178) #[] #[.pointer (some ⟨q,0,none⟩)])∧w'.heap[q]? =some (.cells #[.func (.func 128) #[] #[]] 168)∧w.heap.size≤q∧Below w.heap.size w w':=by
 have hmf: ∀(fn:Fn) (first cap:Array Value) (w:World),(Instr.makeFunc fn first cap).run Tryz.prog w=.ok (.func fn first cap) w:=fun _ _ _ _=>rfl
 have HE:=hd_ (ai_ (heap_new_ w (.cells #[.func (.func 128) #[] #[]] 168)) (below_new w (.cells #[.func (.func 128) #[] #[]] 168)))
 go_enter Tryz.func127,Tryz.ntmps127
 go_wp2
 go_ret
 exact⟨_,rfl,HE.out.1,lr_ _,HE.out.2⟩
theorem orZN_any (w:World):
 Calls Tryz.prog 135 #[.func (.func 21) #[] #[]] w fun e w'=>∃q,e=.returned (.func (.func 185) #[] #[.pointer (some ⟨q,0,none⟩)])∧w'.heap[q]? =some (.cells #[.func (.func 21) #[] #[]] 56)∧w.heap.size≤q∧Below w.heap.size w w':=by
 have hmf: ∀(fn:Fn) (first cap:Array Value) (w:World),(Instr.makeFunc fn first cap).run Tryz.prog w=.ok (.func fn first cap) w:=fun _ _ _ _=>rfl
 have HE:=hd_ (ai_ (heap_new_ w (.cells #[.func (.func 21) #[] #[]] 56)) (below_new w (.cells #[.func (.func 21) #[] #[]] 56)))
 go_enter Tryz.func135,Tryz.ntmps135
 go_wp2
 go_ret
 exact⟨_,rfl,HE.out.1,lr_ _,HE.out.2⟩
theorem princZ_any (S:Nat→Prop)(p:Pr)(c0 c1:Value)(q:Nat)(w:World)(hp:PrC S w p c0 c1)(hq:w.heap[q]? =some (.cells #[.func (.func 128) #[] #[]] 168))(hT:Tabs w):
 Calls Tryz.prog 178 #[.agg #[c0,c1],.pointer (some ⟨q,0,none⟩)] w (NVal (fun g=>w.heap.size≤g) w (princZ p)):=by
 have hent:=enters_of Tryz.func128 (by kernel_rfl) rfl
 have hpc:=hp
 obtain⟨A,cap,rfl,rfl,_⟩:=hp
 obtain⟨len,hlen⟩:=nm_ (p.names.length)
 obtain⟨s,hs0⟩:=nm_ (p.realm)
 rw[hlen,hs0] at hpc⊢
 obtain⟨W0,hW0⟩:=nm_ ((w.alloc (.cells #[.string s,.slice A len cap] 117)).alloc (.cells #[.int .u8 0,.slice none 0 0,.slice none 0 0] 43))
 have hb0:Below w.heap.size w W0:=by rw[←hW0];exact(below_new _ _).alloc (by simp) _
 have hz0:W0.heap.size=w.heap.size+2:=by rw[←hW0];simp
 have p0:W0.heap[w.heap.size+1]? =some (.cells #[.int .u8 0,.slice none 0 0,.slice none 0 0] 43):=by rw[←hW0];exact heap_is (by simp)
 have q0:W0.heap[w.heap.size]? =some (.cells #[.string s,.slice A len cap] 117):=by rw[←hW0,heap_old_ _ _ (by simp)];exact heap_new_ _ _
 have b0:W0.cell? ⟨w.heap.size,0,none⟩=some (.string s):=(ch_ q0 _).trans rfl
 have b1:W0.cell? ⟨w.heap.size,1,none⟩=some (.slice A len cap):=(ch_ q0 _).trans rfl
 have hput:=putPrinc_any S p _ _ W0 (hpc.below hb0) (hT.below hb0)
 have hZ:princZ p=(princF p).getD zn:=by unfold princZ;rw[princF_of];split<;>rfl
 obtain⟨r,hr⟩:=nm_ (princF p)
 rw[hr] at hput hZ
 rw[hZ]
 have d0:W0.cell? ⟨q,0,none⟩=some (.func (.func 128) #[] #[]):=(ch_ ((hb0.block q (Array.getElem?_eq_some_iff.1 hq).1).trans hq) 0).trans rfl
 have HC:=hd_ hput
 have HB:=hd_ (ai_ hb0 (ai_ p0 hz0))
 clear hput hb0 p0 hz0 hr hZ hq hT hlen hs0 hpc
 go_enter Tryz.func178,Tryz.ntmps178
 go_wp2_with fail
 refine HC.out.mono ?_
 intro e w1 hpost
 obtain⟨hb1,t,A5,la5,ca5,K5,lk5,ck5,er,rfl,_,hn⟩:=hpost.anyS
 have hz:=HB.out.2.2
 obtain⟨W2,hW2⟩:=nm_ (w1.alloc (.cells #[.int .u8 t,.slice A5 la5 ca5,.slice K5 lk5 ck5] 43))
 have hb12:Below w1.heap.size w1 W2:=by rw[←hW2];exact below_new _ _
 have q2:W2.heap[w1.heap.size]? =some (.cells #[.int .u8 t,.slice A5 la5 ca5,.slice K5 lk5 ck5] 43):=by rw[←hW2];exact heap_new_ _ _
 have hb2:=below_then hb1 hb12 (lr_ _)
 have p2:=(hb2.block (w.heap.size+1) (by omega)).trans HB.out.2.1
 have hB2:=below_then HB.out.1 hb2 (lr_ _)
 obtain⟨y0,y1,y2⟩:=box_nd (br_ _ W2) q2
 obtain⟨r0,r1,r2,hB⟩:=res3 (b:=w.heap.size+1) (y0:=.int .u8 t) (y1:=.slice A5 la5 ca5) (y2:=.slice K5 lk5 ck5) (by omega) hB2 p2
 have hn2:=res3_nd (b:=w.heap.size+1) (y0:=.int .u8 t) (y1:=.slice A5 la5 ca5) (y2:=.slice K5 lk5 ck5) (fun g hg=>by omega) (NdC.below hb12 _ _ _ _ hn)
 have f0:=fh_ p2 0
 have f1:=fh_ p2 1
 have f2:=fh_ p2 2
 have s0:=(ch_ p2 0).trans rfl
 have s1:=(ch_ p2 1).trans rfl
 have s2:=(ch_ p2 2).trans rfl
 have HE:=hd_ (ai_ hB (NdC.mono (B':=fun g=>w.heap.size≤g) (fun g hg=>by omega) _ _ _ _ hn2))
 clear hB hn hn2 hb1 hb12 hb2 hB2 q2 p2 HC HB hz hpost d0 b0 b1
 go_wp2_with fail
 refine bodyPost_ret (v:=.agg #[.int .u8 t,.slice A5 la5 ca5,.slice K5 lk5 ck5]) ?_ rfl ⟨HE.out.1,_,_,_,_,_,_,_,rfl,HE.out.2⟩
 simp[results,Tryz.results178,go_sem,r0,r1,r2]
theorem nameZ_any (S:Nat→Prop)(l:List At)(A:Option Addr)(len cap:Nat)(q:Nat)(w:World)(hl:l.length=len)(hL:Lst atE S w A l)(hc:len≤cap)(hm:cap≤maxLen)(hq:w.heap[q]? =some (.cells #[.func (.func 21) #[] #[]] 56))(hT:Tabs w):
 Calls Tryz.prog 185 #[.slice A len cap,.pointer (some ⟨q,0,none⟩)] w (NVal (fun g=>w.heap.size≤g) w (nameZ l)):=by
 have hent:=enters_of Tryz.func21 (by kernel_rfl) rfl
 obtain⟨W0,hW0⟩:=nm_ (w.alloc (.cells #[.int .u8 0,.slice none 0 0,.slice none 0 0] 43))
 have hb0:Below w.heap.size w W0:=by rw[←hW0];exact below_new _ _
 have hz0:W0.heap.size=w.heap.size+1:=by rw[←hW0];simp
 have p0:W0.heap[w.heap.size]? =some (.cells #[.int .u8 0,.slice none 0 0,.slice none 0 0] 43):=by rw[←hW0];exact heap_new_ _ _
 have hput:=put_any S A len cap l W0 hl (hL.below hb0) hc hm (hT.below hb0)
 have hZ:nameZ l=(nameF l).getD zn:=by unfold nameZ;rw[nameF_of];split<;>rfl
 obtain⟨r,hr⟩:=nm_ (nameF l)
 rw[hr] at hput hZ
 rw[hZ]
 have d0:W0.cell? ⟨q,0,none⟩=some (.func (.func 21) #[] #[]):=(ch_ ((hb0.block q (Array.getElem?_eq_some_iff.1 hq).1).trans hq) 0).trans rfl
 have HC:=hd_ hput
 have HB:=hd_ (ai_ hb0 (ai_ p0 hz0))
 clear hput hb0 p0 hz0 hr hZ hq hT hl hL hc hm
 go_enter Tryz.func185,Tryz.ntmps185
 go_wp2_with fail
 refine HC.out.mono ?_
 intro e w1 hpost
 obtain⟨hb1,t,A5,la5,ca5,K5,lk5,ck5,er,rfl,_,hn⟩:=hpost.anyS
 have hz:=HB.out.2.2
 obtain⟨W2,hW2⟩:=nm_ (w1.alloc (.cells #[.int .u8 t,.slice A5 la5 ca5,.slice K5 lk5 ck5] 43))
 have hb12:Below w1.heap.size w1 W2:=by rw[←hW2];exact below_new _ _
 have q2:W2.heap[w1.heap.size]? =some (.cells #[.int .u8 t,.slice A5 la5 ca5,.slice K5 lk5 ck5] 43):=by rw[←hW2];exact heap_new_ _ _
 have hb2:=below_then hb1 hb12 (lr_ _)
 have p2:=(hb2.block (w.heap.size) (by omega)).trans HB.out.2.1
 have hB2:=below_then HB.out.1 hb2 (lr_ _)
 obtain⟨y0,y1,y2⟩:=box_nd (br_ _ W2) q2
 obtain⟨r0,r1,r2,hB⟩:=res3 (b:=w.heap.size) (y0:=.int .u8 t) (y1:=.slice A5 la5 ca5) (y2:=.slice K5 lk5 ck5) (lr_ _) hB2 p2
 have hn2:=res3_nd (b:=w.heap.size) (y0:=.int .u8 t) (y1:=.slice A5 la5 ca5) (y2:=.slice K5 lk5 ck5) (fun g hg=>by omega) (NdC.below hb12 _ _ _ _ hn)
 have f0:=fh_ p2 0
 have f1:=fh_ p2 1
 have f2:=fh_ p2 2
 have s0:=(ch_ p2 0).trans rfl
 have s1:=(ch_ p2 1).trans rfl
 have s2:=(ch_ p2 2).trans rfl
 have HE:=hd_ (ai_ hB (NdC.mono (B':=fun g=>w.heap.size≤g) (fun g hg=>by omega) _ _ _ _ hn2))
 clear hB hn hn2 hb1 hb12 hb2 hB2 q2 p2 HC HB hz hpost d0
 go_wp2_with fail
 refine bodyPost_ret (v:=.agg #[.int .u8 t,.slice A5 la5 ca5,.slice K5 lk5 ck5]) ?_ rfl ⟨HE.out.1,_,_,_,_,_,_,_,rfl,HE.out.2⟩
 simp[results,Tryz.results185,go_sem,r0,r1,r2]
end Go.Proofs.YtkjkhoglkpepiaaGreatDoor.nmc
