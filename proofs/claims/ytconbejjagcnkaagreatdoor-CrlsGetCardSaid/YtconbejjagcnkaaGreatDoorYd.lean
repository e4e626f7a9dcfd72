/- The document's node of a name. The document's node of a principal; its Put and PutPrinc. -/
import Derived.Test.YtconbejjagcnkaaGreatDoorYc
namespace Go.Proofs.YtconbejjagcnkaaGreatDoor.nmc
open Go.RowKit Go.Proofs.YtconbejjagcnkaaGreatDoor.tlvc Go.Proofs.YtconbejjagcnkaaGreatDoor.tlvd Go.Proofs.YtconbejjagcnkaaGreatDoor.ndc Go.Proofs.YtconbejjagcnkaaGreatDoor.txc Go.Proofs.YtconbejjagcnkaaGreatDoor.txm Go.Proofs.YtconbejjagcnkaaGreatDoor.intc Go.Proofs.YtconbejjagcnkaaGreatDoor.intm
set_option linter.unusedVariables false
set_option linter.unusedSimpArgs false
set_option maxRecDepth 100000 in
set_option maxHeartbeats 16000000 in
theorem rnode_any (B:Nat→Prop)(A:Option Addr)(len cap:Nat)(xs:List At)(w:World)(hl:xs.length=len)(hL:Lst atE B w A xs)(hc:len≤cap)(hm:cap≤maxLen)(h8:len≤1000)(hok: ∀a∈xs,objB a.oid=true):
    Calls Tryz.prog 46 #[.slice A len cap] w (NVal (fun g=>w.heap.size≤g) w (nameN xs)):=by
  have h9:cap≤9223372036854775807:=by unfold maxLen at hm;omega
  have mixed:Tryz.prog.follows Departure.mixedOrders=true:=by kernel_rfl
  obtain⟨W0,hW0⟩: ∃x,w.alloc (.cells #[.int .u8 0,.slice none 0 0,.slice none 0 0] 40)=x:=⟨_,rfl⟩
  have hb0:Below w.heap.size w W0:=by rw[←hW0];exact below_new _ _
  have p0:W0.heap[w.heap.size]? =some (.cells #[.int .u8 0,.slice none 0 0,.slice none 0 0] 40):=by rw[←hW0];exact heap_new_ _ _
  have hz0:W0.heap.size=w.heap.size+1:=by rw[←hW0];simp
  have hY: ∀g,W0.heap.size≤g→w.heap.size+1≤g:=fun g hg=>by omega
  have HL:=Lib.hid (And.intro hl (And.intro hL hok))
  have HB:=Lib.hid (And.intro hb0 (And.intro p0 (And.intro hz0 hY)))
  clear hl hL hok hb0 p0 hz0 hm hY
  go_enter Tryz.func46,Tryz.ntmps46
  go_wp2_with fail
  go_loopg [3,4] (len+1) (fun gk s3 s4 wx=>∃(i:Nat) (Av:Option Addr) (cv:Nat),s3=.slice Av i cv∧s4=.int .i64 i∧i≤len∧len - i<gk∧Hid (LInv ndE 40 (fun g=>w.heap.size+1≤g) W0 (.slice Av i cv) ((xs.take i).map attrN) wx))
  case atStart=>exact⟨0,none,0,rfl,rfl,by omega,by omega,Lib.hid LInv.start⟩
  case round=>
    obtain⟨i,Av,cv,rfl,rfl,hi,hgk,HI⟩:=hrel
    have hbw:=below_then HB.out.1 HI.out.bel (Nat.le_refl _)
    by_cases hlt:i<len
    · have hltz:(i:Int)< (len:Int):=by omega
      obtain⟨gk',rfl⟩: ∃g',gk=g'+1:=⟨gk - 1,by omega⟩
      have HN:=Lib.hid (And.intro (show i+1≤len from hlt) (show len - (i+1)<gk' by omega))
      have hix:i<xs.length:=by rw[HL.out.1];exact hlt
      obtain⟨g,off,cs,rfl,hg,hcell,hold⟩:=HL.out.2.1.at i hix
      obtain⟨c0,c1,rfl,A0,l0,k0,rfl,rfl,hx1,hx2,hx3,hx4,hx5⟩:=hold
      have hx3:=hx3.below hbw
      have v0:=hcell 0 _ rfl
      have v1:=hcell 1 _ rfl
      rw[show atE.sz=2 from rfl] at v0 v1
      rw[Nat.add_zero] at v0
      have hoid:=fun W (hW:Below wr.heap.size wr W)=>roid_any A0 l0 k0 xs[i].oid W (HL.out.2.2 _ (List.getElem_mem hix)) (hx3.below hW) hx1 hx2
      have htxt:=fun W=>rtext_any 12 xs[i].text W (by omega) hx5
      have hatt:attrN xs[i]=.mk 48 [] [.mk 6 (encO xs[i].oid) [],.mk 12 (bytesI xs[i].text) []]:=rfl
      obtain⟨s,hs⟩: ∃x,xs[i].text=x:=⟨_,rfl⟩
      rw[hs] at v1 htxt hatt
      have e0:=cell_on hbw v0
      have e1:=cell_on hbw v1
      have HV:=Lib.hid (fun W (hW:Below w.heap.size w W)=>(⟨cell_on hW v0,cell_on hW v1⟩:W.cell? ⟨g,off+i*2,none⟩=some (.slice A0 l0 k0)∧W.cell? ⟨g,off+i*2+1,none⟩=some (.string s)))
      clear v0 v1
      obtain⟨n1,hn1⟩: ∃x,Nd.mk 6 (encO xs[i].oid) []=x:=⟨_,rfl⟩
      obtain⟨n2,hn2⟩: ∃x,Nd.mk 12 (bytesI s) []=x:=⟨_,rfl⟩
      rw[hn1] at hoid hatt
      rw[hn2] at htxt hatt
      have hlk:((xs.take i).map attrN).length=i:=by rw[List.length_map,List.length_take];omega
      have hnx:(xs.take i).map attrN++[.mk 48 [] [n1,n2]]=(xs.take (i+1)).map attrN:=by rw[List.take_succ_eq_append_getElem hix,List.map_append,List.map_cons,List.map_nil,hatt]
      have hfin: ∀(w3 w5:World) (g6:Nat) (d0 d1 d2:Value),Below wr.heap.size wr w3→NdC (fun g=>wr.heap.size≤g) w3 (.mk 48 [] [n1,n2]) d0 d1 d2→Below w3.heap.size w3 w5→wr.heap.size≤g6→w5.heap[g6]? =some (.cells #[d0,d1,d2] 40)→
          ∃A c w7,(Builtin.append_ #[38,38] 38 #[.slice Av i cv,.slice (some ⟨g6,0,none⟩) 1 1]).run Tryz.prog w5=.ok (.slice A (i+1) c) w7∧LInv ndE 40 (fun g=>w.heap.size+1≤g) W0 (.slice A (i+1) c) ((xs.take (i+1)).map attrN) w7:=fun w3 w5 g6 d0 d1 d2 h3 hn h5 hg6 hbox=>by
        have hlo:=HI.out.bel.size
        have hz0:=HB.out.2.2.1
        obtain⟨A,c,w7,hr,hI⟩:=HI.out.push Tryz.infN HB.out.2.2.2 (below_then h3 h5 (Nat.le_refl _)) (x:=.mk 48 [] [n1,n2]) (news:=[d0,d1,d2]) ⟨d0,d1,d2,rfl,NdC.mono (fun g hg=>⟨by omega,.inr hg⟩) _ _ _ _ (NdC.below h5 _ _ _ _ hn)⟩ hg6 hbox (fun j u hu=>by
          match j,hu with
          |0,hu=>exact hu
          |1,hu=>exact hu
          |2,hu=>exact hu
          |j+3,hu=>simp at hu) (by rw[hlk];omega) (by rw[hlk];unfold maxLen;omega)
        rw[hlk] at hr hI
        rw[hnx] at hI
        exact⟨A,c,w7,hr,hI⟩
      have HF:=Lib.hid hfin
      have HO:=Lib.hid hoid
      have HT:=Lib.hid htxt
      clear hfin hoid htxt hatt hn1 hn2 hs hlk hnx hx1 hx2 hx3 hx4 hx5 hcell hgk hbw
      go_wp2_with fail
      try dsimp only
      refine wp_region_noPanic ?_
      refine wp_region_held_drew (S:=fun wx:World=>wx.cell? ⟨g,off+i*2,none⟩=some (.slice A0 l0 k0)∧wx.cell? ⟨g,off+i*2+1,none⟩=some (.string s)) mixed ⟨e0,e1⟩ (fun hHeld=>?_)
      have hbd:=below_drew wr
      obtain⟨wd,hwd⟩: ∃x,wr.drew=x:=⟨_,rfl⟩
      rw[hwd] at hHeld hbd⊢
      clear hwd
      (refine wpAnyH_take (i:=0) (oi:=⟨_,_,_,_,_,_⟩) (v:=?_) rfl (by kernel_rfl) (by kernel_rfl) (by kernel_rfl) (fun _ _ _ h=>h) (Or.inl ⟨by rfl,?_⟩) (by assumption) ?_;rotate_left;focus (intro wS hSw;(first |obtain⟨c1,c2⟩:=hSw |skip);go_simp;(try with_reducible rfl);done);(try simp only[Act.put,List.setIfInBounds_toArray,List.set_cons_zero,List.set_cons_succ]))
      (refine wpAnyH_take (i:=1) (oi:=⟨_,_,_,_,_,_⟩) (v:=?_) rfl (by kernel_rfl) (by kernel_rfl) (by kernel_rfl) (fun _ _ _ h=>h) (Or.inl ⟨by rfl,?_⟩) (by assumption) ?_;rotate_left;focus (intro wS hSw;(first |obtain⟨c1,c2⟩:=hSw |skip);go_simp;(try with_reducible rfl);done);(try simp only[Act.put,List.setIfInBounds_toArray,List.set_cons_zero,List.set_cons_succ]))
      (refine wpAnyH_take (i:=2) (oi:=⟨_,_,_,_,_,_⟩) (v:=?_) rfl (by kernel_rfl) (by kernel_rfl) (by kernel_rfl) (fun _ _ _ h=>h) (Or.inl ⟨by rfl,?_⟩) (by assumption) ?_;rotate_left;focus (intro wS hSw;(first |obtain⟨c1,c2⟩:=hSw |skip);go_simp;(try with_reducible rfl);done);(try simp only[Act.put,List.setIfInBounds_toArray,List.set_cons_zero,List.set_cons_succ]))
      (refine wpAnyH_take (i:=3) (oi:=⟨_,_,_,_,_,_⟩) (v:=?_) rfl (by kernel_rfl) (by kernel_rfl) (by kernel_rfl) (fun _ _ _ h=>h) (Or.inl ⟨by rfl,?_⟩) (by assumption) ?_;rotate_left;focus (intro wS hSw;(first |obtain⟨c1,c2⟩:=hSw |skip);go_simp;(try with_reducible rfl);done);(try simp only[Act.put,List.setIfInBounds_toArray,List.set_cons_zero,List.set_cons_succ]))
      (refine wpAnyH_take (i:=4) (oi:=⟨_,_,_,_,_,_⟩) (v:=?_) rfl (by kernel_rfl) (by kernel_rfl) (by kernel_rfl) (fun _ _ _ h=>h) (Or.inl ⟨by rfl,?_⟩) (by assumption) ?_;rotate_left;focus (intro wS hSw;(first |obtain⟨c1,c2⟩:=hSw |skip);go_simp;(try with_reducible rfl);done);(try simp only[Act.put,List.setIfInBounds_toArray,List.set_cons_zero,List.set_cons_succ]))
      (refine wpAnyH_take (i:=5) (oi:=⟨_,_,_,_,_,_⟩) (v:=?_) rfl (by kernel_rfl) (by kernel_rfl) (by kernel_rfl) (fun _ _ _ h=>h) (Or.inl ⟨by rfl,?_⟩) (by assumption) ?_;rotate_left;focus (intro wS hSw;(first |obtain⟨c1,c2⟩:=hSw |skip);go_simp;(try with_reducible rfl);done);(try simp only[Act.put,List.setIfInBounds_toArray,List.set_cons_zero,List.set_cons_succ]))
      (refine wpAnyH_take (i:=7) (oi:=⟨_,_,_,_,_,_⟩) (v:=?_) rfl (by kernel_rfl) (by kernel_rfl) (by kernel_rfl) (fun _ _ _ h=>h) (Or.inl ⟨by rfl,?_⟩) (by assumption) ?_;rotate_left;focus (intro wS hSw;(first |obtain⟨c1,c2⟩:=hSw |skip);go_simp;(try with_reducible rfl);done);(try simp only[Act.put,List.setIfInBounds_toArray,List.set_cons_zero,List.set_cons_succ]))
      (refine wpAnyH_take (i:=8) (oi:=⟨_,_,_,_,_,_⟩) (v:=?_) rfl (by kernel_rfl) (by kernel_rfl) (by kernel_rfl) (fun _ _ _ h=>h) (Or.inl ⟨by rfl,?_⟩) (by assumption) ?_;rotate_left;focus (intro wS hSw;(first |obtain⟨c1,c2⟩:=hSw |skip);go_simp;(try with_reducible rfl);done);(try simp only[Act.put,List.setIfInBounds_toArray,List.set_cons_zero,List.set_cons_succ]))
      (refine wpAnyH_take (i:=9) (oi:=⟨_,_,_,_,_,_⟩) (v:=?_) rfl (by kernel_rfl) (by kernel_rfl) (by kernel_rfl) (fun _ _ _ h=>h) (Or.inl ⟨by rfl,?_⟩) (by assumption) ?_;rotate_left;focus (intro wS hSw;(first |obtain⟨c1,c2⟩:=hSw |skip);go_simp;(try with_reducible rfl);done);(try simp only[Act.put,List.setIfInBounds_toArray,List.set_cons_zero,List.set_cons_succ]))
      (refine wpAnyH_take (i:=10) (oi:=⟨_,_,_,_,_,_⟩) (v:=?_) rfl (by kernel_rfl) (by kernel_rfl) (by kernel_rfl) (fun _ _ _ h=>h) (Or.inl ⟨by rfl,?_⟩) (by assumption) ?_;rotate_left;focus (intro wS hSw;(first |obtain⟨c1,c2⟩:=hSw |skip);go_simp;(try with_reducible rfl);done);(try simp only[Act.put,List.setIfInBounds_toArray,List.set_cons_zero,List.set_cons_succ]))
      (refine wpAnyH_take (i:=11) (oi:=⟨_,_,_,_,_,_⟩) (v:=?_) rfl (by kernel_rfl) (by kernel_rfl) (by kernel_rfl) (fun _ _ _ h=>h) (Or.inl ⟨by rfl,?_⟩) (by assumption) ?_;rotate_left;focus (intro wS hSw;(first |obtain⟨c1,c2⟩:=hSw |skip);go_simp;(try with_reducible rfl);done);(try simp only[Act.put,List.setIfInBounds_toArray,List.set_cons_zero,List.set_cons_succ]))
      refine wpAnyH_ready (rs:=[6]) (by kernel_rfl) (by simp) ?_
      refine AllReadyH.cons (o:=⟨_,_,_,_,_,_⟩) rfl (fun KK hKK=>?_) AllReadyH.nil
      go_simp
      refine(HO.out _ hbd).mono ?_
      rintro e w2 ⟨h1b,t1,A1,a1,b1,K1,m1,k1,rfl,h1n⟩
      dsimp only
      have hb2:=below_then hbd h1b (Nat.le_refl _)
      refine hKK.out _ _ ⟨cell_on hb2 e0,cell_on hb2 e1⟩ (fun hHeld2=>?_)
      clear hKK KK hHeld
      have hHeld:=hHeld2
      clear hHeld2
      try simp only[Act.put,List.setIfInBounds_toArray,List.set_cons_zero,List.set_cons_succ]
      refine wpAnyH_ready (rs:=[12]) (by kernel_rfl) (by simp) ?_
      refine AllReadyH.cons (o:=⟨_,_,_,_,_,_⟩) rfl (fun KK hKK=>?_) AllReadyH.nil
      go_simp
      refine(HT.out _).mono ?_
      rintro e w3 ⟨h2b,t2,A2,a2,b2,K2,m2,k2,rfl,h2n⟩
      dsimp only
      have hb3:=below_then hb2 h2b (Nat.le_refl _)
      refine hKK.out _ _ ⟨cell_on hb3 e0,cell_on hb3 e1⟩ (fun hHeld2=>?_)
      clear hKK KK hHeld
      have hHeld:=hHeld2
      clear hHeld2
      try simp only[Act.put,List.setIfInBounds_toArray,List.set_cons_zero,List.set_cons_succ]
      have q1:NdC (fun g=>wr.heap.size≤g) w3 n1 _ _ _:=NdC.mono (fun g hg=>Nat.le_trans hbd.size hg) _ _ _ _ (NdC.below h2b _ _ _ _ h1n)
      have q2:NdC (fun g=>wr.heap.size≤g) w3 n2 _ _ _:=NdC.mono (fun g hg=>Nat.le_trans hb2.size hg) _ _ _ _ h2n
      have hz3:=hb3.size
      refine wpAnyH_ready (rs:=[13]) (by kernel_rfl) (by simp) ?_
      refine AllReadyH.cons (o:=⟨_,_,_,_,_,_⟩) rfl (fun KK hKK=>?_) AllReadyH.nil
      go_simp
      have hb4:=below_then hb3 (below_new w3 (.cells #[.int .u8 t1,.slice A1 a1 b1,.slice K1 m1 k1,.int .u8 t2,.slice A2 a2 b2,.slice K2 m2 k2] 40)) (Nat.le_refl _)
      refine hKK.out _ _ ⟨cell_on hb4 e0,cell_on hb4 e1⟩ (fun hHeld2=>?_)
      clear hKK KK hHeld
      have hHeld:=hHeld2
      clear hHeld2
      try simp only[Act.put,List.setIfInBounds_toArray,List.set_cons_zero,List.set_cons_succ]
      have p4:=heap_new_ w3 (.cells #[.int .u8 t1,.slice A1 a1 b1,.slice K1 m1 k1,.int .u8 t2,.slice A2 a2 b2,.slice K2 m2 k2] 40)
      have hcall:=rseq_any (fun g=>wr.heap.size≤g) 48 (some ⟨w3.heap.size,0,none⟩) 2 2 [n1,n2] (w3.alloc (.cells #[.int .u8 t1,.slice A1 a1 b1,.slice K1 m1 k1,.int .u8 t2,.slice A2 a2 b2,.slice K2 m2 k2] 40)) (by omega) rfl (Nat.le_refl _) (by unfold maxLen;decide) (two_nodes p4 hz3 (NdC.below (below_new _ _) _ _ _ _ q1) (NdC.below (below_new _ _) _ _ _ _ q2))
      refine wpAnyH_ready (rs:=[14]) (by kernel_rfl) (by simp) ?_
      refine AllReadyH.cons (o:=⟨_,_,_,_,_,_⟩) rfl (fun KK hKK=>?_) AllReadyH.nil
      go_simp
      refine hcall.mono ?_
      rintro e w5 ⟨h5b,t3,A3,a3,b3,K3,m3,k3,rfl,h5n⟩
      dsimp only
      have hb5:=below_then hb4 h5b (Nat.le_refl _)
      refine hKK.out _ _ ⟨cell_on hb5 e0,cell_on hb5 e1⟩ (fun hHeld2=>?_)
      clear hKK KK hHeld
      have hHeld:=hHeld2
      clear hHeld2
      try simp only[Act.put,List.setIfInBounds_toArray,List.set_cons_zero,List.set_cons_succ]
      refine wpAnyH_ready (rs:=[15]) (by kernel_rfl) (by simp) ?_
      refine AllReadyH.cons (o:=⟨_,_,_,_,_,_⟩) rfl (fun KK hKK=>?_) AllReadyH.nil
      go_simp
      have hb6:=below_then hb5 (below_new w5 (.cells #[.int .u8 t3,.slice A3 a3 b3,.slice K3 m3 k3] 40)) (Nat.le_refl _)
      refine hKK.out _ _ ⟨cell_on hb6 e0,cell_on hb6 e1⟩ (fun hHeld2=>?_)
      clear hKK KK hHeld
      have hHeld:=hHeld2
      clear hHeld2
      try simp only[Act.put,List.setIfInBounds_toArray,List.set_cons_zero,List.set_cons_succ]
      obtain⟨A7,c7,w7,hrun,hI7⟩:=HF.out w5 (w5.alloc (.cells #[.int .u8 t3,.slice A3 a3 b3,.slice K3 m3 k3] 40)) w5.heap.size _ _ _ hb5 h5n (below_new _ _) hb5.size (heap_new_ _ _)
      have HI7:=Lib.hid hI7
      have hb7:=hI7.bel
      have hcb:=HV.out w7 (below_then HB.out.1 hb7 (Nat.le_refl _))
      refine wpAnyH_ready (rs:=[16]) (by kernel_rfl) (by simp) ?_
      refine AllReadyH.cons (o:=⟨_,_,_,_,_,_⟩) rfl (fun KK hKK=>?_) AllReadyH.nil
      refine step_run rfl (.tmp 11) (.tmp 26) 38 rfl _ _ _ (by first |rfl |simp[Act.eval,Act.put]) (by first |rfl |simp[Act.eval,Act.put]) hrun (hKK.out _ _ hcb (fun hHeld2=>?_))
      clear hKK KK hHeld
      have hHeld:=hHeld2
      clear hHeld2
      try simp only[Act.put,List.setIfInBounds_toArray,List.set_cons_zero,List.set_cons_succ]
      (refine wpAnyH_take (i:=17) (oi:=⟨_,_,_,_,_,_⟩) (v:=?_) rfl (by kernel_rfl) (by kernel_rfl) (by kernel_rfl) (fun _ _ _ h=>h) (Or.inl ⟨by rfl,?_⟩) (by assumption) ?_;rotate_left;focus (intro wS hSw;(first |obtain⟨c1,c2⟩:=hSw |skip);go_simp;(try with_reducible rfl);done);(try simp only[Act.put,List.setIfInBounds_toArray,List.set_cons_zero,List.set_cons_succ]))
      refine wpAnyH_done (by kernel_rfl) ?_ _
      refine NoPanic.normal ?_
      clear hI7 hb7 hcb hrun hb6 hb5 hb4 hb3 h5n h5b p4 hcall hHeld
      go_wp2_with fail
      go_roundg gk'
      case measure=>omega
      case rel=>exact⟨i+1,A7,c7,rfl,by go_num,HN.out.1,HN.out.2,HI7⟩
    · obtain rfl:len=i:=by omega
      have hltz: ¬(len:Int)< (len:Int):=by omega
      have hlk:((xs.take len).map attrN).length=len:=by rw[List.length_map,List.length_take];have:=HL.out.1;omega
      obtain⟨A2,c2,e2,hc1,hc2,hLn⟩:=HI.out.row.lst HB.out.2.2.2
      rw[hlk] at e2 hc1
      simp only[Value.slice.injEq] at e2
      obtain⟨rfl,_,rfl⟩:=e2
      have hcall:=rseq_any (fun g=>w.heap.size+1≤g) 48 Av len cv _ wr (by omega) hlk hc1 hc2 hLn
      have hnm:Nd.mk 48 [] ((xs.take len).map attrN)=nameN xs:=by rw[List.take_of_length_le (by rw[HL.out.1];omega)];rfl
      rw[hnm] at hcall
      have HC:=Lib.hid hcall
      have HW:=Lib.hid (And.intro hbw ((HI.out.bel.block _ (by rw[HB.out.2.2.1];omega)).trans HB.out.2.1))
      clear hcall hnm hLn hbw hlk hc1 hc2 hgk
      go_wp2_with fail
      refine HC.out.mono ?_
      rintro e w2 ⟨hb2,t,A5,la5,ca5,K5,lk5,ck5,rfl,hn⟩
      have p2:=(hb2.block _ (Array.getElem?_eq_some_iff.1 HW.out.2).1).trans HW.out.2
      obtain⟨r0,r1,r2,hB⟩:=res3 (y0:=.int .u8 t) (y1:=.slice A5 la5 ca5) (y2:=.slice K5 lk5 ck5) (Nat.le_refl _) (below_then HW.out.1 hb2 (Nat.le_refl _)) p2
      have hn2:=res3_nd (b:=w.heap.size) (y0:=.int .u8 t) (y1:=.slice A5 la5 ca5) (y2:=.slice K5 lk5 ck5) (fun g hg=>by omega) hn
      have f0:=Lib.frozen_of_heap p2 0
      have f1:=Lib.frozen_of_heap p2 1
      have f2:=Lib.frozen_of_heap p2 2
      have s0:=(Lib.cell_of_heap p2 0).trans rfl
      have s1:=(Lib.cell_of_heap p2 1).trans rfl
      have s2:=(Lib.cell_of_heap p2 2).trans rfl
      have HE:=Lib.hid (And.intro hB (NdC.mono (B':=fun g=>w.heap.size≤g) (fun g hg=>by omega) _ _ _ _ hn2))
      clear hB hn hn2 p2 hb2 HC HW
      go_wp2_with fail
      refine bodyPost_ret (v:=.agg #[.int .u8 t,.slice A5 la5 ca5,.slice K5 lk5 ck5]) ?_ rfl ⟨HE.out.1,_,_,_,_,_,_,_,rfl,HE.out.2⟩
      simp[results,Tryz.results46,go_sem,r0,r1,r2]
end Go.Proofs.YtconbejjagcnkaaGreatDoor.nmc
namespace Go.Proofs.YtconbejjagcnkaaGreatDoor.nmc
open Go.RowKit Go.Proofs.YtconbejjagcnkaaGreatDoor.tlvc Go.Proofs.YtconbejjagcnkaaGreatDoor.tlvd Go.Proofs.YtconbejjagcnkaaGreatDoor.ndc Go.Proofs.YtconbejjagcnkaaGreatDoor.txc Go.Proofs.YtconbejjagcnkaaGreatDoor.txm Go.Proofs.YtconbejjagcnkaaGreatDoor.intc Go.Proofs.YtconbejjagcnkaaGreatDoor.intm
set_option linter.unusedVariables false
set_option linter.unusedSimpArgs false
theorem nameF_of (l:List At):nameF l=if rightN l=true then some (nameN l) else none:=rfl
theorem PrC.below {B:Nat→Prop}{w w':World}{p:Pr}{c0 c1:Value}(h:PrC B w p c0 c1)(hb:Below w.heap.size w w'):PrC B w' p c0 c1:=by
  obtain⟨A,c,h0,h1,h2,h3,h4,h5⟩:=h
  exact⟨A,c,h0,h1,h2,h3,h4.below hb,h5⟩
end Go.Proofs.YtconbejjagcnkaaGreatDoor.nmc
