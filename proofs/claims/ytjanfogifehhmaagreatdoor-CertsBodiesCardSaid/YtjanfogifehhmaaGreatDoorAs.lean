/- The program's toldBy: the extensions that a node tells. -/
import Derived.Test.YtjanfogifehhmaaGreatDoorAm
import Derived.Test.YtjanfogifehhmaaGreatDoorAr
import Derived.Laws.EntriesVeiled
set_option maxRecDepth 100000
set_option maxHeartbeats 8000000
set_option linter.unusedVariables false
set_option linter.unusedSimpArgs false
namespace Go.Proofs.YtjanfogifehhmaaGreatDoor.nmc
open Go.RowKit tlvc tlvd ndc txc txm intc intm
theorem tail_lst {B:Nat→Prop}{w:World}{g off n ck:Nat}{ks:List Nd}(hl:ks.length=n)(hL:Lst ndE B w (some ⟨g,off,none⟩) ks)(h1:1≤n)(hc:n≤ck):Lst ndE B w (if ck=1 then some ⟨g,off,none⟩ else some ⟨g,off+3,none⟩) (ks.drop 1):=fun hn=>by
 rw[List.length_drop] at hn
 obtain⟨g',off',e,hg,hB,hcell⟩:=hL (by omega)
 cases e
 rw[if_neg (by omega)]
 refine⟨g,off+3,rfl,hg,hB,fun i hi=>?_⟩
 rw[List.length_drop] at hi
 obtain⟨cs,h2,h3⟩:=hcell (i+1) (by omega)
 refine⟨cs,fun j u hu=>?_,?_⟩
 ·have:=h2 j u hu
  rw[show ndE.sz=3 from rfl] at this⊢
  rwa[show off+3+i*3+j=off+ (i+1)*3+j by omega]
 ·rw[List.getElem_drop]
  have e:1+i=i+1:=by omega
  simp only[e]
  exact h3
theorem kid_fit {B:Nat→Prop}{w:World}{t:Int}{b:List Int}{ks:List Nd}{c0 c1 c2:Value}(h:NdC B w (.mk t b ks) c0 c1 c2): ∀k∈ks,Fit k.body:=fun k hk=>by
 obtain⟨_,_,_,K,ck,_,_,_,hL⟩:=NdC.kidsL h
 obtain⟨i,hi,rfl⟩:=List.mem_iff_getElem.1 hk
 obtain⟨g,off,t1,A1,l1,k1,K1,m1,n1,_,_,_,_,hn1⟩:=nd_cells hL (br_ _ w) i hi
 exact(body_size hn1).2.2.1.2.1
theorem pathF_i64: ∀(ks:List Nd),(∀k∈ks,Fit k.body)→ -9223372036854775808≤pathF ks∧pathF ks≤9223372036854775807
 | [],_=>⟨by decide,by decide⟩
 |k::ks,h=>by
  show -9223372036854775808≤(intF k.body).1∧(intF k.body).1≤9223372036854775807
  have hi:=take_i64 (h k (by simp))
  unfold I64 at hi
  unfold intF
  split
  ·exact hi
  ·exact⟨by decide,by decide⟩
theorem read0_any (x:Ex)(n:Nd)(n0 n1 n2:Value)(q p:Nat)(c0 c1 c2 c3 c4 c5 c6 c7 c8:Value)(w:World)(hX:XB (fun g=>p<g) w q p x c0 c1 c2 c3 c4 c5 c6 c7 c8)(hqp:q≠p)(hn:NdC (fun g=>p<g) w n n0 n1 n2):
 Calls Tryz.prog 144 #[.agg #[n0,n1,n2],.pointer (some ⟨q,0,none⟩)] w (ReadPost w q p (readX 0 x n)):=by
 have mixed:Tryz.prog.follows Departure.mixedOrders=true:=by kernel_rfl
 obtain⟨t,b,ks⟩:=n
 obtain⟨rfl,ht,⟨A1,l1,k1,rfl,_,_,_,_⟩,K1,u1,rfl,hK1,hK2,hK3⟩:=NdC.kidsL hn
 have h9:u1≤9223372036854775807:=by unfold maxLen at hK2;omega
 obtain⟨m1,hm1⟩:=nm_ (ks.length)
 rw[hm1] at hK1 hn⊢
 obtain⟨W0,hW0⟩:=nm_ (w.alloc (.cells #[.int .u8 t,.slice A1 l1 k1,.slice K1 m1 u1] 49))
 have hb0:Below w.heap.size w W0:=by rw[←hW0];exact below_new _ _
 have q0:W0.heap[w.heap.size]? =some (.cells #[.int .u8 t,.slice A1 l1 k1,.slice K1 m1 u1] 49):=by rw[←hW0];exact heap_new_ _ _
 have hz:=hX.size
 obtain⟨x0,x1,x2⟩:=box_nd (br_ _ W0) q0
 obtain⟨d0,_⟩:=(hX.below hb0).cells
 have HX:=hd_ (fun W (hW:Below W0.heap.size W0 W)=>ai_ ((hX.below (below_then hb0 hW (lr_ _))).cells.1) (box_nd hW q0))
 have HXB:=hd_ (fun W (hW:Below W0.heap.size W0 W)=>hX.below (below_then hb0 hW (lr_ _)))
 have HB:=hd_ (ai_ hb0 (ai_ hz hqp))
 have HW0:=hd_ hW0
 obtain⟨cb,hcb⟩:=nm_ (decide (0<m1))
 have hcb2:decide ((0:Int)< (m1:Int))=cb:=by rw[←hcb];exact decide_eq_decide.2 (by omega)
 have hcb3:=hcb
 have HCB:=hd_ hcb
 have HFIN:=hd_ (show readX 0 x (.mk t b ks)={x with hasCA:=true,ca:=cb,path:=if 0<m1 then pathF (ks.drop 1) else x.path} from by rw[←hcb,←hm1];rfl)
 obtain⟨fin,hfin⟩:=nm_ (readX 0 x (.mk t b ks))
 rw[hfin] at HFIN⊢
 have HK:=hd_ (ai_ hm1 (ai_ hK1 (ai_ hK2 hK3)))
 have HPI:=hd_ (pathF_i64 (ks.drop 1) (fun k hk=>kid_fit hn k (List.mem_of_mem_drop hk)))
 clear hb0 q0 hz hX hn hqp hW0 hfin hcb hm1 hK1 hK2 hK3 ht
 go_enter Tryz.func144,Tryz.ntmps144
 go_wp2_with fail
 try dsimp only
 (try rw[HW0.out])
 try dsimp only
 refine wp_region_noPanic ?_
 refine wp_region_held_drew (S:=fun wx:World=>wx.cell? ⟨q,0,none⟩=some (.pointer (some ⟨p,0,none⟩))∧wx.cell? ⟨w.heap.size,0,none⟩=some (.int .u8 t)∧wx.cell? ⟨w.heap.size,1,none⟩=some (.slice A1 l1 k1)∧wx.cell? ⟨w.heap.size,2,none⟩=some (.slice K1 m1 u1)) mixed ⟨d0,x0,x1,x2⟩ (fun hHeld=>?_)
 have hbd:=below_drew W0
 obtain⟨wd,hwd⟩:=nm_ (W0.drew)
 rw[hwd] at hHeld hbd⊢
 clear hwd
 refine tk_ (i:=0) (z:=?_)
 refine tk_ (i:=1) (z:=?_)
 refine tk_ (i:=2) (z:=?_)
 refine tk_ (i:=3) (z:=?_)
 refine tk_ (i:=6) (z:=?_)
 refine tk_ (i:=4) (z:=?_)
 refine tk_ (i:=7) (z:=?_)
 refine tk_ (i:=5) (z:=?_)
 have hxb:=HXB.out _ hbd
 have hpp:=hxb.p
 have f0:=fh_ hpp 0
 have s0:=(ch_ hpp 0).trans rfl
 have hfx:=hxb.put0 (v:=.bool true) HB.out.2.2 rfl
 have hkb:=(KB.of (Nat.le_of_lt HB.out.2.1.2) (below_then HB.out.1 hbd (lr_ _))).set 0 (.bool true)
 obtain⟨z0,z1,z2,z3⟩:=HX.out _ hbd
 have hne:w.heap.size≠p:=by have:=HB.out.2.1.2;omega
 have hcb:=ai_ ((cell_same (set_heap_other wd p 0 q (.bool true) HB.out.2.2)).trans z0) (ai_ ((cell_same (set_heap_other wd p 0 w.heap.size (.bool true) hne)).trans z1) (ai_ ((cell_same (set_heap_other wd p 0 w.heap.size (.bool true) hne)).trans z2) ((cell_same (set_heap_other wd p 0 w.heap.size (.bool true) hne)).trans z3)))
 refine on_ (i:=8) (z:=fun KK hKK=>?_)
 go_simp
 refine hKK.out _ _ hcb (fun hHeld=>?_)
 clear hKK KK
 try simp only[Act.put,qa_,qb_,qc_]
 refine tk_ (i:=9) (z:=?_)
 refine tk_ (i:=10) (z:=?_)
 have HCB0:=hd_ hcb
 have HFX:=hd_ hfx
 have HKB:=hd_ hkb
 clear hcb z0 z1 z2 z3 s0 f0 hpp hxb hfx hkb
 have hpp:=HFX.out.p
 have f0:=fh_ hpp 1
 have s0:=(ch_ hpp 1).trans rfl
 have hfx:=HFX.out.put1 (v:=.bool cb) HB.out.2.2 rfl
 have hkb:=HKB.out.set 1 (.bool cb)
 obtain⟨z0,z1,z2,z3⟩:=HCB0.out
 have hcb:=ai_ ((cell_same (set_heap_other (wd.setCell ⟨p,0,none⟩ (.bool true)) p 1 q (.bool cb) HB.out.2.2)).trans z0) (ai_ ((cell_same (set_heap_other (wd.setCell ⟨p,0,none⟩ (.bool true)) p 1 w.heap.size (.bool cb) hne)).trans z1) (ai_ ((cell_same (set_heap_other (wd.setCell ⟨p,0,none⟩ (.bool true)) p 1 w.heap.size (.bool cb) hne)).trans z2) ((cell_same (set_heap_other (wd.setCell ⟨p,0,none⟩ (.bool true)) p 1 w.heap.size (.bool cb) hne)).trans z3)))
 refine on_ (i:=11) (z:=fun KK hKK=>?_)
 go_simp
 refine hKK.out _ _ hcb (fun hHeld=>?_)
 clear hKK KK
 try simp only[Act.put,qa_,qb_,qc_]
 refine wpAnyH_done (by kernel_rfl) ?_ _
 refine NoPanic.normal ?_
 obtain⟨W2,hW2⟩:=nm_ ((wd.setCell ⟨p,0,none⟩ (.bool true)).setCell ⟨p,1,none⟩ (.bool cb))
 rw[hW2] at hcb hfx hkb⊢
 have HE:=hd_ (ai_ hkb hfx)
 have HBD:=hd_ hbd
 clear x0 x1 x2 d0
 obtain⟨d0,x0,x1,x2⟩:=hcb
 have d1:W2.cell? ⟨p,1,none⟩=some (.bool cb):=(ch_ hfx.p 1).trans rfl
 clear hHeld hW2 z0 z1 z2 z3 s0 f0 hpp hfx hkb hne hbd HCB0 HFX HKB
 clear hcb2 hcb3
 cases cb
 ·have HF:=hd_ (show {x with hasCA:=true,ca:=false}=fin from by rw[HFIN.out,if_neg (of_decide_eq_false HCB.out)])
  clear HFIN HCB
  go_wp2_with fail
  first |refine bodyPost_ret (results_none rfl _ _ _) rfl ?_ |refine bodyPost_normal (results_none rfl _ _ _) rfl ?_ |go_end0
  exact⟨rfl,HE.out.1,_,_,_,_,_,_,_,_,_,by rw[←HF.out];exact HE.out.2⟩
 ·have hm0:=of_decide_eq_true HCB.out
  have HF:=hd_ (show {x with hasCA:=true,ca:=true,path:=pathF (ks.drop 1)}=fin from by rw[HFIN.out,if_pos hm0])
  obtain⟨g,off,rfl,_⟩:=HK.out.2.2.2 (show 0<ks.length by have:=HK.out.1;omega)
  have hm2: ¬(m1:Int)<1:=by omega
  have hm3:(1:Int)≤(m1:Int):=by omega
  have hm4:1≤m1:=by omega
  have hm5:(m1:Int) - 1=((m1 - 1:Nat):Int):=by omega
  have hm6:(u1:Int) - 1=((u1 - 1:Nat):Int):=by have:=HK.out.2.1;omega
  have hm7:=HK.out.2.1
  have hm8:(m1:Int)≤(u1:Int):=by omega
  have HP:=hd_ (fun W (hW:KB p w W)=>pathOf_any (fun g=>p<g) (if u1=1 then some ⟨g,off,none⟩ else some ⟨g,off+3,none⟩) (m1 - 1) (u1 - 1) (ks.drop 1) W (by rw[List.length_drop,HK.out.1]) (tail_lst HK.out.1 (HK.out.2.2.2.on hW.bel.size (fun g hg hl=>hW.kept g hl (Nat.ne_of_gt hg)) (fun g hg _=>hg)) hm4 HK.out.2.1) (by omega) (by have:=HK.out.2.2.1;omega))
  obtain⟨K2,hKe⟩: ∃y:Option Addr,(if u1=1 then some ⟨g,off,none⟩ else some ⟨g,off+3,none⟩)=y:=⟨_,rfl⟩
  rw[hKe] at HP
  obtain⟨pv,hpv⟩:=nm_ (pathF (ks.drop 1))
  rw[hpv] at HP HF
  have HPV:=hd_ (show -9223372036854775808≤pv∧pv≤9223372036854775807 from by rw[←hpv];exact HPI.out)
  clear HFIN HCB hm0 hpv
  go_wp2_with fail
  try dsimp only
  refine wp_region_noPanic ?_
  refine wp_region_held_drew (S:=fun wx:World=>wx.cell? ⟨q,0,none⟩=some (.pointer (some ⟨p,0,none⟩))∧wx.cell? ⟨w.heap.size,0,none⟩=some (.int .u8 t)∧wx.cell? ⟨w.heap.size,1,none⟩=some (.slice A1 l1 k1)∧wx.cell? ⟨w.heap.size,2,none⟩=some (.slice (some ⟨g,off,none⟩) m1 u1)) mixed ⟨d0,x0,x1,x2⟩ (fun hHeld=>?_)
  have hbd:=below_drew W2
  obtain⟨wq,hwq⟩:=nm_ (W2.drew)
  rw[hwq] at hHeld hbd⊢
  clear hwq
  refine tk_ (i:=0) (z:=?_)
  refine tk_ (i:=1) (z:=?_)
  refine tk_ (i:=2) (z:=?_)
  refine tk_ (i:=3) (z:=?_)
  refine on_ (i:=4) (z:=fun KK hKK=>?_)
  go_simp
  refine(HP.out wq (HE.out.1.below (Nat.le_of_lt HB.out.2.1.2) hbd)).mono ?_
  rintro e w3 ⟨rfl,hb3⟩
  dsimp only
  have hb3:=below_then hbd hb3 (lr_ _)
  refine hKK.out _ _ ⟨cell_on hb3 d0,cell_on hb3 x0,cell_on hb3 x1,cell_on hb3 x2⟩ (fun hHeld=>?_)
  clear hKK KK
  try simp only[Act.put,qa_,qb_,qc_]
  refine tk_ (i:=5) (z:=?_)
  refine tk_ (i:=6) (z:=?_)
  have hxb:=HE.out.2.below hb3
  have hpp:=hxb.p
  have f0:=fh_ hpp 2
  have s0:=(ch_ hpp 2).trans rfl
  have hfx:=hxb.put2 (v:=.int .i64 pv) HB.out.2.2 rfl HPV.out
  have hkb:=(HE.out.1.below (Nat.le_of_lt HB.out.2.1.2) hb3).set 2 (.int .i64 pv)
  have hne:w.heap.size≠p:=by have:=HB.out.2.1.2;omega
  have hcb:=ai_ ((cell_same (set_heap_other w3 p 2 q (.int .i64 pv) HB.out.2.2)).trans (cell_on hb3 d0)) (ai_ ((cell_same (set_heap_other w3 p 2 w.heap.size (.int .i64 pv) hne)).trans (cell_on hb3 x0)) (ai_ ((cell_same (set_heap_other w3 p 2 w.heap.size (.int .i64 pv) hne)).trans (cell_on hb3 x1)) ((cell_same (set_heap_other w3 p 2 w.heap.size (.int .i64 pv) hne)).trans (cell_on hb3 x2))))
  refine on_ (i:=7) (z:=fun KK hKK=>?_)
  go_simp
  refine hKK.out _ _ hcb (fun hHeld=>?_)
  clear hKK KK
  try simp only[Act.put,qa_,qb_,qc_]
  refine wpAnyH_done (by kernel_rfl) ?_ _
  refine NoPanic.normal ?_
  have HE2:=hd_ (ai_ hkb hfx)
  clear hHeld hcb s0 f0 hpp hxb hfx hkb hne hbd hb3 x0 x1 x2 d0 d1 HE
  go_wp2_with fail
  first |refine bodyPost_ret (results_none rfl _ _ _) rfl ?_ |refine bodyPost_normal (results_none rfl _ _ _) rfl ?_ |go_end0
  exact⟨rfl,HE2.out.1,_,_,_,_,_,_,_,_,_,by rw[←HF.out];exact HE2.out.2⟩
end Go.Proofs.YtjanfogifehhmaaGreatDoor.nmc
namespace Go.Proofs.YtjanfogifehhmaaGreatDoor.nmc
open Go.RowKit tlvc tlvd ndc txc txm intc intm
theorem read4_any (x:Ex)(n:Nd)(n0 n1 n2:Value)(q p:Nat)(c0 c1 c2 c3 c4 c5 c6 c7 c8:Value)(w:World)(hX:XB (fun g=>p<g) w q p x c0 c1 c2 c3 c4 c5 c6 c7 c8)(hqp:q≠p)(hn:NdC (fun g=>p<g) w n n0 n1 n2)(hTB: ∀W,Below p w W→Tabs W):
 Calls Tryz.prog 168 #[.agg #[n0,n1,n2],.pointer (some ⟨q,0,none⟩)] w (ReadPost w q p (readX 4 x n)):=by
 have mixed:Tryz.prog.follows Departure.mixedOrders=true:=by kernel_rfl
 obtain⟨t,A1,l1,k1,K1,m1,u1,rfl,rfl,rfl⟩:=hn.shape
 obtain⟨W0,hW0⟩:=nm_ (w.alloc (.cells #[.int .u8 t,.slice A1 l1 k1,.slice K1 m1 u1] 49))
 have hb0:Below w.heap.size w W0:=by rw[←hW0];exact below_new _ _
 have q0:W0.heap[w.heap.size]? =some (.cells #[.int .u8 t,.slice A1 l1 k1,.slice K1 m1 u1] 49):=by rw[←hW0];exact heap_new_ _ _
 have hz:=hX.size
 obtain⟨x0,x1,x2⟩:=box_nd (br_ _ W0) q0
 obtain⟨d0,_⟩:=(hX.below hb0).cells
 have hent:=enters_of Tryz.func220 (by kernel_rfl) rfl
 have HENT:=hd_ hent
 have HX:=hd_ (fun W (hW:Below W0.heap.size W0 W)=>ai_ ((hX.below (below_then hb0 hW (lr_ _))).cells.1) (box_nd hW q0))
 have HXB:=hd_ (fun W (hW:Below W0.heap.size W0 W)=>hX.below (below_then hb0 hW (lr_ _)))
 have HB:=hd_ (ai_ hb0 (ai_ hz hqp))
 have HW0:=hd_ hW0
 have HND:=hd_ (fun W (hW:KB p w W)=>NdC.stays (B:=fun g=>p<g) (w':=W) ⟨hW.bel.size,fun a ha hl=>World.cell?_of_block (hW.kept _ hl (Nat.ne_of_gt ha))⟩ _ _ _ _ hn)
 have HTB:=hd_ hTB
 obtain⟨fin,hfin⟩:=nm_ (readX 4 x n)
 have HFIN:=hd_ (show {x with permit:=(listedF (taggedF n 160)).map getNZ,exclude:=(listedF (taggedF n 161)).map getNZ}=fin from hfin)
 rw[hfin]
 obtain⟨m160,h160⟩:=nm_ (taggedF n 160)
 obtain⟨m161,h161⟩:=nm_ (taggedF n 161)
 rw[h160,h161] at HFIN
 have H160:=hd_ h160
 have H161:=hd_ h161
 clear hb0 q0 hz hX hn hqp hW0 hfin hent hTB h160 h161
 go_enter Tryz.func168,Tryz.ntmps168
 go_wp2_with fail
 try dsimp only
 (try rw[HW0.out])
 have HSZ1:=hd_ (show w.heap.size≤W0.heap.size from HB.out.1.size)
 try dsimp only
 refine wp_region_noPanic ?_
 refine wp_region_held_drew (S:=fun wx:World=>wx.cell? ⟨q,0,none⟩=some (.pointer (some ⟨p,0,none⟩))∧wx.cell? ⟨w.heap.size,0,none⟩=some (.int .u8 t)∧wx.cell? ⟨w.heap.size,1,none⟩=some (.slice A1 l1 k1)∧wx.cell? ⟨w.heap.size,2,none⟩=some (.slice K1 m1 u1)) mixed ⟨d0,x0,x1,x2⟩ (fun hHeld=>?_)
 have hbd1:=below_drew W0
 obtain⟨wd1,hwd1⟩:=nm_ (W0.drew)
 rw[hwd1] at hHeld hbd1⊢
 clear hwd1
 refine tk_ (i:=0) (z:=?_)
 refine tk_ (i:=1) (z:=?_)
 refine on_ (i:=2) (z:=fun KK hKK=>?_)
 go_simp
 refine(tagged_any (fun g=>p<g) n 160 _ _ _ _ (HND.out _ (KB.of (Nat.le_of_lt HB.out.2.1.2) (below_then HB.out.1 hbd1 (lr_ _)))) (by decide)).mono ?_
 rintro e w3 ⟨hb3,t3,B3,m3,n3,K3,u3,v3,rfl,hn3⟩
 dsimp only
 rw[H160.out] at hn3
 have hb3:=below_then hbd1 hb3 (lr_ _)
 refine hKK.out _ _ (HX.out _ hb3) (fun hHeld=>?_)
 clear hKK KK
 try simp only[Act.put,qa_,qb_,qc_]
 refine on_ (i:=3) (z:=fun KK hKK=>?_)
 go_simp
 refine(listed_any (fun g=>p<g) m160 _ _ _ w3 hn3).mono ?_
 rintro e w4 ⟨hb4,A4,k4,rfl,i1,i2,hl4⟩
 dsimp only
 have hb4:=below_then hb3 hb4 (lr_ _)
 have hl16:(listedF m160).length≤1000:=by unfold listedF;rw[List.length_take];omega
 refine hKK.out _ _ (HX.out _ hb4) (fun hHeld=>?_)
 clear hKK KK
 try simp only[Act.put,qa_,qb_,qc_]
 refine on_ (i:=4) (z:=fun KK hKK=>?_)
 go_simp
 refine(orZGN_any w4).mono ?_
 rintro e w5 ⟨q5,rfl,hq5,hq5b,hb5⟩
 dsimp only
 have hl5:=hl4.below hb5
 have hb5:=below_then hb4 hb5 (lr_ _)
 refine hKK.out _ _ (HX.out _ hb5) (fun hHeld=>?_)
 clear hKK KK
 try simp only[Act.put,qa_,qb_,qc_]
 refine on_ (i:=5) (z:=fun KK hKK=>?_)
 go_simp
 refine(eachNNm (fun g=>p<g) getNZ 220 (.pointer (some ⟨q5,0,none⟩)) A4 _ k4 (listedF m160) w5 rfl hl5 i1 i2 hl16 HENT.out (fun y _ V hV c0 c1 c2 hold=>by
  obtain⟨_,_,_,e,hnn⟩:=hold
  simp only[List.cons.injEq,and_true] at e
  obtain⟨rfl,rfl,rfl⟩:=e
  exact getNZ_any _ y _ _ _ q5 V hnn ((hV.block q5 (Array.getElem?_eq_some_iff.1 hq5).1).trans hq5) (HTB.out V (((KB.of (Nat.le_of_lt HB.out.2.1.2) (below_then HB.out.1 hb5 (lr_ _)))).below (Nat.le_of_lt HB.out.2.1.2) hV).bel))).mono ?_
 rintro e w6 ⟨hb6,A6,c6,rfl,j1,j2,hl6⟩
 dsimp only
 have hlv:LsC nmE (fun g=>p<g) w6 ((listedF m160).map getNZ) (.slice A6 (listedF m160).length c6):=⟨A6,c6,by rw[List.length_map],j1,j2,hl6.mono (fun g hg=>by have h1:=hb5.size;have h2:=HB.out.2.1.2;have h3:=HB.out.1.size;have h4:=HSZ1.out;omega)⟩
 have hb6:=below_then hb5 hb6 (lr_ _)
 refine hKK.out _ _ (HX.out _ hb6) (fun hHeld=>?_)
 clear hKK KK
 try simp only[Act.put,qa_,qb_,qc_]
 refine tk_ (i:=6) (z:=?_)
 refine tk_ (i:=7) (z:=?_)
 have hxb:=HXB.out _ hb6
 have hpp:=hxb.p
 have f0:=fh_ hpp 6
 have s0:=(ch_ hpp 6).trans rfl
 have hfx:=hxb.put6 HB.out.2.2 hlv
 have hkb:=((KB.of (Nat.le_of_lt HB.out.2.1.2) (below_then HB.out.1 hb6 (lr_ _)))).set 6 (.slice A6 (listedF m160).length c6)
 obtain⟨z0,z1,z2,z3⟩:=(HX.out _ hb6)
 have hne:w.heap.size≠p:=by have:=HB.out.2.1.2;omega
 have hcb:=ai_ ((cell_same (set_heap_other w6 p 6 q (.slice A6 (listedF m160).length c6) HB.out.2.2)).trans z0) (ai_ ((cell_same (set_heap_other w6 p 6 w.heap.size (.slice A6 (listedF m160).length c6) hne)).trans z1) (ai_ ((cell_same (set_heap_other w6 p 6 w.heap.size (.slice A6 (listedF m160).length c6) hne)).trans z2) ((cell_same (set_heap_other w6 p 6 w.heap.size (.slice A6 (listedF m160).length c6) hne)).trans z3)))
 refine on_ (i:=8) (z:=fun KK hKK=>?_)
 go_simp
 refine hKK.out _ _ hcb (fun hHeld=>?_)
 clear hKK KK
 try simp only[Act.put,qa_,qb_,qc_]
 refine wpAnyH_done (by kernel_rfl) ?_ _
 refine NoPanic.normal ?_
 obtain⟨W1,hW1⟩:=nm_ (w6.setCell ⟨p,6,none⟩ (.slice A6 (listedF m160).length c6))
 rw[hW1] at hcb hfx hkb⊢
 have HKB:=hd_ hkb
 have HFX:=hd_ hfx
 have HX1:=hd_ (fun W (hW:Below W1.heap.size W1 W)=>ai_ (cell_on hW hcb.1) (ai_ (cell_on hW hcb.2.1) (ai_ (cell_on hW hcb.2.2.1) (cell_on hW hcb.2.2.2))))
 have HSZ2:=hd_ (show w.heap.size≤W1.heap.size from hkb.bel.size)
 have HC1:=hd_ hcb
 clear hHeld hcb z0 z1 z2 z3 s0 f0 hpp hxb hfx hkb hne hlv hbd1 hb3 hb4 hb5 hb6 hl4 hl5 hl6 i1 i2 hl16 j1 j2 hq5 hq5b hn3 hW1 x0 x1 x2 d0
 obtain⟨d0,x0,x1,x2⟩:=HC1.out
 clear HC1
 go_wp2_with fail
 try dsimp only
 refine wp_region_noPanic ?_
 refine wp_region_held_drew (S:=fun wx:World=>wx.cell? ⟨q,0,none⟩=some (.pointer (some ⟨p,0,none⟩))∧wx.cell? ⟨w.heap.size,0,none⟩=some (.int .u8 t)∧wx.cell? ⟨w.heap.size,1,none⟩=some (.slice A1 l1 k1)∧wx.cell? ⟨w.heap.size,2,none⟩=some (.slice K1 m1 u1)) mixed ⟨d0,x0,x1,x2⟩ (fun hHeld=>?_)
 have hbd2:=below_drew W1
 obtain⟨wd2,hwd2⟩:=nm_ (W1.drew)
 rw[hwd2] at hHeld hbd2⊢
 clear hwd2
 refine tk_ (i:=0) (z:=?_)
 refine tk_ (i:=1) (z:=?_)
 refine on_ (i:=2) (z:=fun KK hKK=>?_)
 go_simp
 refine(tagged_any (fun g=>p<g) n 161 _ _ _ _ (HND.out _ (HKB.out.below (Nat.le_of_lt HB.out.2.1.2) hbd2)) (by decide)).mono ?_
 rintro e v3_ ⟨hb3,t3,B3,m3,n3,K3,u3,v3,rfl,hn3⟩
 dsimp only
 rw[H161.out] at hn3
 have hb3:=below_then hbd2 hb3 (lr_ _)
 refine hKK.out _ _ (HX1.out _ hb3) (fun hHeld=>?_)
 clear hKK KK
 try simp only[Act.put,qa_,qb_,qc_]
 refine on_ (i:=3) (z:=fun KK hKK=>?_)
 go_simp
 refine(listed_any (fun g=>p<g) m161 _ _ _ v3_ hn3).mono ?_
 rintro e v4_ ⟨hb4,A4,k4,rfl,i1,i2,hl4⟩
 dsimp only
 have hb4:=below_then hb3 hb4 (lr_ _)
 have hl16:(listedF m161).length≤1000:=by unfold listedF;rw[List.length_take];omega
 refine hKK.out _ _ (HX1.out _ hb4) (fun hHeld=>?_)
 clear hKK KK
 try simp only[Act.put,qa_,qb_,qc_]
 refine on_ (i:=4) (z:=fun KK hKK=>?_)
 go_simp
 refine(orZGN_any v4_).mono ?_
 rintro e v5_ ⟨q5,rfl,hq5,hq5b,hb5⟩
 dsimp only
 have hl5:=hl4.below hb5
 have hb5:=below_then hb4 hb5 (lr_ _)
 refine hKK.out _ _ (HX1.out _ hb5) (fun hHeld=>?_)
 clear hKK KK
 try simp only[Act.put,qa_,qb_,qc_]
 refine on_ (i:=5) (z:=fun KK hKK=>?_)
 go_simp
 refine(eachNNm (fun g=>p<g) getNZ 220 (.pointer (some ⟨q5,0,none⟩)) A4 _ k4 (listedF m161) v5_ rfl hl5 i1 i2 hl16 HENT.out (fun y _ V hV c0 c1 c2 hold=>by
  obtain⟨_,_,_,e,hnn⟩:=hold
  simp only[List.cons.injEq,and_true] at e
  obtain⟨rfl,rfl,rfl⟩:=e
  exact getNZ_any _ y _ _ _ q5 V hnn ((hV.block q5 (Array.getElem?_eq_some_iff.1 hq5).1).trans hq5) (HTB.out V (((HKB.out.below (Nat.le_of_lt HB.out.2.1.2) hb5)).below (Nat.le_of_lt HB.out.2.1.2) hV).bel))).mono ?_
 rintro e v6_ ⟨hb6,A6,c6,rfl,j1,j2,hl6⟩
 dsimp only
 have hlv:LsC nmE (fun g=>p<g) v6_ ((listedF m161).map getNZ) (.slice A6 (listedF m161).length c6):=⟨A6,c6,by rw[List.length_map],j1,j2,hl6.mono (fun g hg=>by have h1:=hb5.size;have h2:=HB.out.2.1.2;have h3:=HB.out.1.size;have h4:=HSZ2.out;omega)⟩
 have hb6:=below_then hb5 hb6 (lr_ _)
 refine hKK.out _ _ (HX1.out _ hb6) (fun hHeld=>?_)
 clear hKK KK
 try simp only[Act.put,qa_,qb_,qc_]
 refine tk_ (i:=6) (z:=?_)
 refine tk_ (i:=7) (z:=?_)
 have hxb:=HFX.out.below hb6
 have hpp:=hxb.p
 have f0:=fh_ hpp 7
 have s0:=(ch_ hpp 7).trans rfl
 have hfx:=hxb.put7 HB.out.2.2 hlv
 have hkb:=((HKB.out.below (Nat.le_of_lt HB.out.2.1.2) hb6)).set 7 (.slice A6 (listedF m161).length c6)
 obtain⟨z0,z1,z2,z3⟩:=(HX1.out _ hb6)
 have hne:w.heap.size≠p:=by have:=HB.out.2.1.2;omega
 have hcb:=ai_ ((cell_same (set_heap_other v6_ p 7 q (.slice A6 (listedF m161).length c6) HB.out.2.2)).trans z0) (ai_ ((cell_same (set_heap_other v6_ p 7 w.heap.size (.slice A6 (listedF m161).length c6) hne)).trans z1) (ai_ ((cell_same (set_heap_other v6_ p 7 w.heap.size (.slice A6 (listedF m161).length c6) hne)).trans z2) ((cell_same (set_heap_other v6_ p 7 w.heap.size (.slice A6 (listedF m161).length c6) hne)).trans z3)))
 refine on_ (i:=8) (z:=fun KK hKK=>?_)
 go_simp
 refine hKK.out _ _ hcb (fun hHeld=>?_)
 clear hKK KK
 try simp only[Act.put,qa_,qb_,qc_]
 refine wpAnyH_done (by kernel_rfl) ?_ _
 refine NoPanic.normal ?_
 have HE:=hd_ (ai_ hkb hfx)
 clear hHeld hcb z0 z1 z2 z3 s0 f0 hpp hxb hfx hkb hne hlv hbd2 hb3 hb4 hb5 hb6 hl4 hl5 hl6 i1 i2 hl16 j1 j2 hq5 hq5b hn3 x0 x1 x2 d0
 go_wp2_with fail
 first |refine bodyPost_ret (results_none rfl _ _ _) rfl ?_ |refine bodyPost_normal (results_none rfl _ _ _) rfl ?_ |go_end0
 exact⟨rfl,HE.out.1,_,_,_,_,_,_,_,_,_,by rw[←HFIN.out];exact HE.out.2⟩
end Go.Proofs.YtjanfogifehhmaaGreatDoor.nmc
namespace Go.Proofs.YtjanfogifehhmaaGreatDoor.nmc
open Go.RowKit tlvc tlvd ndc txc txm intc intm
def XVal (S:Nat→Prop)(w:World)(x:Ex)(e:Ending)(w':World):Prop:=Below w.heap.size w w'∧∃c0 c1 c2 c3 c4 c5 c6 c7 c8,e=.returned (.agg #[c0,c1,c2,c3,c4,c5,c6,c7,c8])∧ExC S w' x c0 c1 c2 c3 c4 c5 c6 c7 c8
def set9 (W:World)(b:Nat)(y0 y1 y2 y3 y4 y5 y6 y7 y8:Value):World:=(((((((((W.setCell ⟨b,0,none⟩ y0).setCell ⟨b,1,none⟩ y1).setCell ⟨b,2,none⟩ y2).setCell ⟨b,3,none⟩ y3).setCell ⟨b,4,none⟩ y4).setCell ⟨b,5,none⟩ y5).setCell ⟨b,6,none⟩ y6).setCell ⟨b,7,none⟩ y7).setCell ⟨b,8,none⟩ y8)
theorem set9_size (W:World)(b:Nat)(y0 y1 y2 y3 y4 y5 y6 y7 y8:Value):(set9 W b y0 y1 y2 y3 y4 y5 y6 y7 y8).heap.size=W.heap.size:=by unfold set9;rw[set_size,set_size,set_size,set_size,set_size,set_size,set_size,set_size,set_size]
theorem set9_other (W:World)(b:Nat)(y0 y1 y2 y3 y4 y5 y6 y7 y8:Value){g:Nat}(h:g≠b):(set9 W b y0 y1 y2 y3 y4 y5 y6 y7 y8).heap[g]? =W.heap[g]? :=by unfold set9;rw[set_heap_other _ _ _ _ _ h,set_heap_other _ _ _ _ _ h,set_heap_other _ _ _ _ _ h,set_heap_other _ _ _ _ _ h,set_heap_other _ _ _ _ _ h,set_heap_other _ _ _ _ _ h,set_heap_other _ _ _ _ _ h,set_heap_other _ _ _ _ _ h,set_heap_other _ _ _ _ _ h]
theorem set9_box {W:World}{b:Nat}{x0 x1 x2 x3 x4 x5 x6 x7 x8:Value}{T:TypeId}{fr:Nat × Nat}(h:W.heap[b]? =some (.cells #[x0,x1,x2,x3,x4,x5,x6,x7,x8] T fr))(y0 y1 y2 y3 y4 y5 y6 y7 y8:Value):(set9 W b y0 y1 y2 y3 y4 y5 y6 y7 y8).heap[b]? =some (.cells #[y0,y1,y2,y3,y4,y5,y6,y7,y8] T fr):=by
 unfold set9
 have h1:((W.setCell ⟨b,0,none⟩ y0)).heap[b]? =some (.cells #[y0,x1,x2,x3,x4,x5,x6,x7,x8] T fr):=set_heap _ _ 0 y0 _ _ _ h
 have h2:(((W.setCell ⟨b,0,none⟩ y0).setCell ⟨b,1,none⟩ y1)).heap[b]? =some (.cells #[y0,y1,x2,x3,x4,x5,x6,x7,x8] T fr):=set_heap _ _ 1 y1 _ _ _ h1
 have h3:((((W.setCell ⟨b,0,none⟩ y0).setCell ⟨b,1,none⟩ y1).setCell ⟨b,2,none⟩ y2)).heap[b]? =some (.cells #[y0,y1,y2,x3,x4,x5,x6,x7,x8] T fr):=set_heap _ _ 2 y2 _ _ _ h2
 have h4:(((((W.setCell ⟨b,0,none⟩ y0).setCell ⟨b,1,none⟩ y1).setCell ⟨b,2,none⟩ y2).setCell ⟨b,3,none⟩ y3)).heap[b]? =some (.cells #[y0,y1,y2,y3,x4,x5,x6,x7,x8] T fr):=set_heap _ _ 3 y3 _ _ _ h3
 have h5:((((((W.setCell ⟨b,0,none⟩ y0).setCell ⟨b,1,none⟩ y1).setCell ⟨b,2,none⟩ y2).setCell ⟨b,3,none⟩ y3).setCell ⟨b,4,none⟩ y4)).heap[b]? =some (.cells #[y0,y1,y2,y3,y4,x5,x6,x7,x8] T fr):=set_heap _ _ 4 y4 _ _ _ h4
 have h6:(((((((W.setCell ⟨b,0,none⟩ y0).setCell ⟨b,1,none⟩ y1).setCell ⟨b,2,none⟩ y2).setCell ⟨b,3,none⟩ y3).setCell ⟨b,4,none⟩ y4).setCell ⟨b,5,none⟩ y5)).heap[b]? =some (.cells #[y0,y1,y2,y3,y4,y5,x6,x7,x8] T fr):=set_heap _ _ 5 y5 _ _ _ h5
 have h7:((((((((W.setCell ⟨b,0,none⟩ y0).setCell ⟨b,1,none⟩ y1).setCell ⟨b,2,none⟩ y2).setCell ⟨b,3,none⟩ y3).setCell ⟨b,4,none⟩ y4).setCell ⟨b,5,none⟩ y5).setCell ⟨b,6,none⟩ y6)).heap[b]? =some (.cells #[y0,y1,y2,y3,y4,y5,y6,x7,x8] T fr):=set_heap _ _ 6 y6 _ _ _ h6
 have h8:(((((((((W.setCell ⟨b,0,none⟩ y0).setCell ⟨b,1,none⟩ y1).setCell ⟨b,2,none⟩ y2).setCell ⟨b,3,none⟩ y3).setCell ⟨b,4,none⟩ y4).setCell ⟨b,5,none⟩ y5).setCell ⟨b,6,none⟩ y6).setCell ⟨b,7,none⟩ y7)).heap[b]? =some (.cells #[y0,y1,y2,y3,y4,y5,y6,y7,x8] T fr):=set_heap _ _ 7 y7 _ _ _ h7
 have h9:((((((((((W.setCell ⟨b,0,none⟩ y0).setCell ⟨b,1,none⟩ y1).setCell ⟨b,2,none⟩ y2).setCell ⟨b,3,none⟩ y3).setCell ⟨b,4,none⟩ y4).setCell ⟨b,5,none⟩ y5).setCell ⟨b,6,none⟩ y6).setCell ⟨b,7,none⟩ y7).setCell ⟨b,8,none⟩ y8)).heap[b]? =some (.cells #[y0,y1,y2,y3,y4,y5,y6,y7,y8] T fr):=set_heap _ _ 8 y8 _ _ _ h8
 exact h9
theorem set9_below {B b:Nat}{w W:World}(hb:B≤b)(h:Below B w W)(y0 y1 y2 y3 y4 y5 y6 y7 y8:Value):Below B w (set9 W b y0 y1 y2 y3 y4 y5 y6 y7 y8):=
 ((((((((h.setCell (p:=⟨b,0,none⟩) hb y0).setCell (p:=⟨b,1,none⟩) hb y1).setCell (p:=⟨b,2,none⟩) hb y2).setCell (p:=⟨b,3,none⟩) hb y3).setCell (p:=⟨b,4,none⟩) hb y4).setCell (p:=⟨b,5,none⟩) hb y5).setCell (p:=⟨b,6,none⟩) hb y6).setCell (p:=⟨b,7,none⟩) hb y7).setCell (p:=⟨b,8,none⟩) hb y8
theorem res9 {w W:World}{b:Nat}{x0 x1 x2 x3 x4 x5 x6 x7 x8 y0 y1 y2 y3 y4 y5 y6 y7 y8:Value}{T:TypeId}{fr:Nat × Nat}(hb:w.heap.size≤b)(hB:Below w.heap.size w W)(hres:W.heap[b]? =some (.cells #[x0,x1,x2,x3,x4,x5,x6,x7,x8] T fr)):
 (((((((((W.setCell ⟨b,0,none⟩ y0).setCell ⟨b,1,none⟩ y1).setCell ⟨b,2,none⟩ y2).setCell ⟨b,3,none⟩ y3).setCell ⟨b,4,none⟩ y4).setCell ⟨b,5,none⟩ y5).setCell ⟨b,6,none⟩ y6).setCell ⟨b,7,none⟩ y7).setCell ⟨b,8,none⟩ y8).cell? ⟨b,0,none⟩=some y0∧(((((((((W.setCell ⟨b,0,none⟩ y0).setCell ⟨b,1,none⟩ y1).setCell ⟨b,2,none⟩ y2).setCell ⟨b,3,none⟩ y3).setCell ⟨b,4,none⟩ y4).setCell ⟨b,5,none⟩ y5).setCell ⟨b,6,none⟩ y6).setCell ⟨b,7,none⟩ y7).setCell ⟨b,8,none⟩ y8).cell? ⟨b,1,none⟩=some y1∧(((((((((W.setCell ⟨b,0,none⟩ y0).setCell ⟨b,1,none⟩ y1).setCell ⟨b,2,none⟩ y2).setCell ⟨b,3,none⟩ y3).setCell ⟨b,4,none⟩ y4).setCell ⟨b,5,none⟩ y5).setCell ⟨b,6,none⟩ y6).setCell ⟨b,7,none⟩ y7).setCell ⟨b,8,none⟩ y8).cell? ⟨b,2,none⟩=some y2∧(((((((((W.setCell ⟨b,0,none⟩ y0).setCell ⟨b,1,none⟩ y1).setCell ⟨b,2,none⟩ y2).setCell ⟨b,3,none⟩ y3).setCell ⟨b,4,none⟩ y4).setCell ⟨b,5,none⟩ y5).setCell ⟨b,6,none⟩ y6).setCell ⟨b,7,none⟩ y7).setCell ⟨b,8,none⟩ y8).cell? ⟨b,3,none⟩=some y3∧(((((((((W.setCell ⟨b,0,none⟩ y0).setCell ⟨b,1,none⟩ y1).setCell ⟨b,2,none⟩ y2).setCell ⟨b,3,none⟩ y3).setCell ⟨b,4,none⟩ y4).setCell ⟨b,5,none⟩ y5).setCell ⟨b,6,none⟩ y6).setCell ⟨b,7,none⟩ y7).setCell ⟨b,8,none⟩ y8).cell? ⟨b,4,none⟩=some y4∧(((((((((W.setCell ⟨b,0,none⟩ y0).setCell ⟨b,1,none⟩ y1).setCell ⟨b,2,none⟩ y2).setCell ⟨b,3,none⟩ y3).setCell ⟨b,4,none⟩ y4).setCell ⟨b,5,none⟩ y5).setCell ⟨b,6,none⟩ y6).setCell ⟨b,7,none⟩ y7).setCell ⟨b,8,none⟩ y8).cell? ⟨b,5,none⟩=some y5∧(((((((((W.setCell ⟨b,0,none⟩ y0).setCell ⟨b,1,none⟩ y1).setCell ⟨b,2,none⟩ y2).setCell ⟨b,3,none⟩ y3).setCell ⟨b,4,none⟩ y4).setCell ⟨b,5,none⟩ y5).setCell ⟨b,6,none⟩ y6).setCell ⟨b,7,none⟩ y7).setCell ⟨b,8,none⟩ y8).cell? ⟨b,6,none⟩=some y6∧(((((((((W.setCell ⟨b,0,none⟩ y0).setCell ⟨b,1,none⟩ y1).setCell ⟨b,2,none⟩ y2).setCell ⟨b,3,none⟩ y3).setCell ⟨b,4,none⟩ y4).setCell ⟨b,5,none⟩ y5).setCell ⟨b,6,none⟩ y6).setCell ⟨b,7,none⟩ y7).setCell ⟨b,8,none⟩ y8).cell? ⟨b,7,none⟩=some y7∧(((((((((W.setCell ⟨b,0,none⟩ y0).setCell ⟨b,1,none⟩ y1).setCell ⟨b,2,none⟩ y2).setCell ⟨b,3,none⟩ y3).setCell ⟨b,4,none⟩ y4).setCell ⟨b,5,none⟩ y5).setCell ⟨b,6,none⟩ y6).setCell ⟨b,7,none⟩ y7).setCell ⟨b,8,none⟩ y8).cell? ⟨b,8,none⟩=some y8∧Below w.heap.size w (((((((((W.setCell ⟨b,0,none⟩ y0).setCell ⟨b,1,none⟩ y1).setCell ⟨b,2,none⟩ y2).setCell ⟨b,3,none⟩ y3).setCell ⟨b,4,none⟩ y4).setCell ⟨b,5,none⟩ y5).setCell ⟨b,6,none⟩ y6).setCell ⟨b,7,none⟩ y7).setCell ⟨b,8,none⟩ y8):=by
 have hbox:=set9_box hres y0 y1 y2 y3 y4 y5 y6 y7 y8
 exact⟨(ch_ (w:=set9 W b y0 y1 y2 y3 y4 y5 y6 y7 y8) hbox _).trans rfl,(ch_ (w:=set9 W b y0 y1 y2 y3 y4 y5 y6 y7 y8) hbox _).trans rfl,(ch_ (w:=set9 W b y0 y1 y2 y3 y4 y5 y6 y7 y8) hbox _).trans rfl,(ch_ (w:=set9 W b y0 y1 y2 y3 y4 y5 y6 y7 y8) hbox _).trans rfl,(ch_ (w:=set9 W b y0 y1 y2 y3 y4 y5 y6 y7 y8) hbox _).trans rfl,(ch_ (w:=set9 W b y0 y1 y2 y3 y4 y5 y6 y7 y8) hbox _).trans rfl,(ch_ (w:=set9 W b y0 y1 y2 y3 y4 y5 y6 y7 y8) hbox _).trans rfl,(ch_ (w:=set9 W b y0 y1 y2 y3 y4 y5 y6 y7 y8) hbox _).trans rfl,(ch_ (w:=set9 W b y0 y1 y2 y3 y4 y5 y6 y7 y8) hbox _).trans rfl,set9_below hb hB y0 y1 y2 y3 y4 y5 y6 y7 y8⟩
theorem res9_ex {W:World}{b:Nat}{y0 y1 y2 y3 y4 y5 y6 y7 y8:Value}{x:Ex}{c0 c1 c2 c3 c4 c5 c6 c7 c8:Value}{S:Nat→Prop}(hS: ∀g,S g→g≠b)(h:ExC S W x c0 c1 c2 c3 c4 c5 c6 c7 c8):ExC S (((((((((W.setCell ⟨b,0,none⟩ y0).setCell ⟨b,1,none⟩ y1).setCell ⟨b,2,none⟩ y2).setCell ⟨b,3,none⟩ y3).setCell ⟨b,4,none⟩ y4).setCell ⟨b,5,none⟩ y5).setCell ⟨b,6,none⟩ y6).setCell ⟨b,7,none⟩ y7).setCell ⟨b,8,none⟩ y8) x c0 c1 c2 c3 c4 c5 c6 c7 c8:=
 h.on (w':=set9 W b y0 y1 y2 y3 y4 y5 y6 y7 y8) (by rw[set9_size];exact lr_ _) (fun g hg _=>set9_other _ _ _ _ _ _ _ _ _ _ _ (hS g hg)) (fun g hg _=>hg)
def ReadOK (i:Nat):Prop:=∀(x:Ex) (n:Nd) (n0 n1 n2:Value) (q p:Nat) (c0 c1 c2 c3 c4 c5 c6 c7 c8:Value) (w:World) (hX:XB (fun g=>p<g) w q p x c0 c1 c2 c3 c4 c5 c6 c7 c8) (hqp:q≠p) (hn:NdC (fun g=>p<g) w n n0 n1 n2) (hTB: ∀W,Below p w W→Tabs W),Calls Tryz.prog (readId i) #[.agg #[n0,n1,n2],.pointer (some ⟨q,0,none⟩)] w (ReadPost w q p (readX i x n))
theorem read_all (x:Ex)(n:Nd)(n0 n1 n2:Value)(q p:Nat)(c0 c1 c2 c3 c4 c5 c6 c7 c8:Value)(w:World)(hX:XB (fun g=>p<g) w q p x c0 c1 c2 c3 c4 c5 c6 c7 c8)(hqp:q≠p)(hn:NdC (fun g=>p<g) w n n0 n1 n2)(hTB: ∀W,Below p w W→Tabs W): ∀i,i<5→Calls Tryz.prog (readId i) #[.agg #[n0,n1,n2],.pointer (some ⟨q,0,none⟩)] w (ReadPost w q p (readX i x n)):=fun i hi=>by
 match i,hi with
 |0,_=>exact read0_any x n n0 n1 n2 q p _ _ _ _ _ _ _ _ _ w hX hqp hn
 |1,_=>exact read1_any x n n0 n1 n2 q p _ _ _ _ _ _ _ _ _ w hX hqp hn
 |2,_=>exact read2_any x n n0 n1 n2 q p _ _ _ _ _ _ _ _ _ w hX hqp hn
 |3,_=>exact read3_any x n n0 n1 n2 q p _ _ _ _ _ _ _ _ _ w hX hqp hn (hTB w (br_ _ _))
 |4,_=>exact read4_any x n n0 n1 n2 q p _ _ _ _ _ _ _ _ _ w hX hqp hn hTB
theorem read_ent: ∀i,i<5→Enters Tryz.prog (readId i):=fun i hi=>by
 match i,hi with
 |0,_=>exact enters_of Tryz.func144 (by kernel_rfl) rfl
 |1,_=>exact enters_of Tryz.func148 (by kernel_rfl) rfl
 |2,_=>exact enters_of Tryz.func153 (by kernel_rfl) rfl
 |3,_=>exact enters_of Tryz.func161 (by kernel_rfl) rfl
 |4,_=>exact enters_of Tryz.func168 (by kernel_rfl) rfl
structure TIn (PP:Nd→Prop) (w W1:World) (p q:Nat) (X:Ex) (RR:List Nd) (i kr:Nat) (Ar:Option Addr) (cr:Nat) (wx:World) (xc:Ex) (r:List Nd) (c0 c1 c2 c3 c4 c5 c6 c7 c8:Value):Prop where
 pp: ∀k∈r,PP k
 fin:toldL (ks5.drop i) xc r=(X,RR)
 xb:XB (fun g=>p<g) wx q p xc c0 c1 c2 c3 c4 c5 c6 c7 c8
 kb:KB p W1 wx
 len:r.length=kr
 lst:Lst ndE (fun g=>g<w.heap.size) w Ar r
 cap:kr≤cr∧cr≤maxLen∧kr≤21
theorem told_parse {w w':World}{b:List Int}{e:Ending}(h:PPost w (readAllF b) e w'):Below w.heap.size w w'∧∃t A l k K m u a er,e=.returned (.tuple #[.agg #[.int .u8 t,.slice A l k,.slice K m u],.int .i64 a,.int .i64 er])∧NdC (fun g=>w.heap.size≤g) w' (parsedF b) (.int .u8 t) (.slice A l k) (.slice K m u):=by
 obtain⟨hb,h⟩:=h
 refine⟨hb,?_⟩
 cases hr:readAllF b with
 |bad a er=>
  rw[hr] at h
  obtain rfl:=h
  refine⟨0,none,0,0,none,0,0,a,er,rfl,?_⟩
  have e:parsedF b=zeroN:=by unfold parsedF;rw[hr]
  rw[e]
  exact ndC_leaf (by omega) (lr_ _) (Nat.zero_le _) (Bys.nil_ _ _) (fun h=>absurd h (by omega))
 |ok nd s=>
  rw[hr] at h
  obtain⟨v,rfl,c0,c1,c2,rfl,hn⟩:=h
  obtain⟨t,A,l,k,K,m,u,rfl,rfl,rfl⟩:=hn.shape
  have e:parsedF b=nd:=by unfold parsedF;rw[hr]
  rw[e]
  exact⟨t,A,l,k,K,m,u,0,0,rfl,hn⟩
theorem toldL_no {i:Nat}{x:Ex}{k:Nd}{ks:List Nd}{R:Ex × List Nd}(hi:i<5)(h:toldL (ks5.drop i) x (k::ks)=R)(he: ¬(oddOfF k).oid=koid i):toldL (ks5.drop (i+1)) x (k::ks)=R:=by
 rw[ks5_drop hi] at h
 unfold toldL at h
 rwa[if_neg he] at h
theorem toldL_yes {i:Nat}{x:Ex}{k:Nd}{ks:List Nd}{R:Ex × List Nd}(hi:i<5)(h:toldL (ks5.drop i) x (k::ks)=R)(he:(oddOfF k).oid=koid i):toldL (ks5.drop (i+1)) (readX i x (parsedF (oddOfF k).body)) ks=R:=by
 rw[ks5_drop hi] at h
 unfold toldL at h
 rwa[if_pos he] at h
theorem take_min21 {α:Type}(ks:List α){n k:Nat}(hn:ks.length=n)(hk:min n 21=k):ks.take 21=ks.take k:=by
 rw[←hk,←hn]
 rcases Nat.le_total ks.length 21 with h |h
 ·rw[Nat.min_eq_left h,List.take_of_length_le h,List.take_of_length_le (lr_ _)]
 ·rw[Nat.min_eq_right h]
theorem toldH_any (PP:Nd→Prop)(B:Nat→Prop)(n:Nd)(c0 c1 c2:Value)(w:World)(hn:NdC B w n c0 c1 c2)(hT:Tabs w)(hP: ∀k∈n.kids,PP k)(hRd: ∀i k,i<5→PP k→(oddOfF k).oid=koid i→ReadOK i):
 Calls Tryz.prog 197 #[.agg #[c0,c1,c2]] w (XVal (fun g=>w.heap.size≤g) w (toldX n)):=by
 have hmf: ∀(fn:Fn) (first cap:Array Value) (w:World),(Instr.makeFunc fn first cap).run Tryz.prog w=.ok (.func fn first cap) w:=fun _ _ _ _=>rfl
 have hn:=NdC.bound _ _ _ _ hn
 obtain⟨t,b,ks⟩:=n
 have HPP:=hd_ (ai_ (show∀k∈ks,PP k from hP) hRd)
 clear hP hRd
 obtain⟨rfl,ht,⟨A1,l1,k1,rfl,_,_,_,_⟩,K1,ck,rfl,hK1,hK2,hK3⟩:=NdC.kidsL hn
 have h9:ck≤9223372036854775807:=by unfold maxLen at hK2;omega
 obtain⟨n,hn0⟩:=nm_ (ks.length)
 rw[hn0] at hK1⊢
 obtain⟨k,hk⟩:=nm_ (min n 21)
 have hmin:min ((n:Nat):Int) 21=((k:Nat):Int):=by rw[←hk];omega
 have hkn:k≤n:=by omega
 have hk21:k≤21:=by omega
 have hkc:(k:Int)≤(ck:Int):=by omega
 have hkc2:k≤ck:=by omega
 have htk:ks.take 21=ks.take k:=take_min21 ks hn0 hk
 obtain⟨X,hX⟩:=nm_ ((toldL ks5 ex0 (ks.take 21)).1)
 obtain⟨RR,hRR⟩:=nm_ ((toldL ks5 ex0 (ks.take 21)).2)
 have hfin:toldL (ks5.drop 0) ex0 (ks.take k)=(X,RR):=by rw[←htk,←hX,←hRR];rfl
 have htx:toldX (.mk t b ks)={X with odd:=RR.map cutOd}:=by rw[←hX,←hRR];rfl
 rw[htx]
 obtain⟨W0,hW0⟩:=nm_ (((w.alloc (.cells #[.int .u8 t,.slice A1 l1 k1,.slice K1 n ck] 49)).alloc (.cells #[.bool false,.bool false,.int .i64 0,.int .u16 0,.slice none 0 0,.slice none 0 0,.slice none 0 0,.slice none 0 0,.slice none 0 0] 30)).alloc (.cells #[.bool false,.bool false,.int .i64 0,.int .u16 0,.slice none 0 0,.slice none 0 0,.slice none 0 0,.slice none 0 0,.slice none 0 0] 30))
 have hb0:Below w.heap.size w W0:=by rw[←hW0];exact((below_new _ _).alloc (by simp) _).alloc (by simp;omega) _
 have hz0:W0.heap.size=w.heap.size+3:=by rw[←hW0];simp
 have q0:W0.heap[w.heap.size]? =some (.cells #[.int .u8 t,.slice A1 l1 k1,.slice K1 n ck] 49):=by rw[←hW0,heap_old_ _ _ (by simp;omega),heap_old_ _ _ (by simp)];exact heap_new_ _ _
 have p0:W0.heap[w.heap.size+1]? =some (.cells #[.bool false,.bool false,.int .i64 0,.int .u16 0,.slice none 0 0,.slice none 0 0,.slice none 0 0,.slice none 0 0,.slice none 0 0] 30):=by rw[←hW0,heap_old_ _ _ (by simp)];exact heap_is (by simp)
 have x0:W0.heap[w.heap.size+1+1]? =some (.cells #[.bool false,.bool false,.int .i64 0,.int .u16 0,.slice none 0 0,.slice none 0 0,.slice none 0 0,.slice none 0 0,.slice none 0 0] 30):=by rw[←hW0];exact heap_is (by simp)
 have HKI:=hd_ (kinds_any (fun _=>True) ex0 (w.heap.size+1+1) _ _ _ _ _ _ _ _ _ W0 x0 (ex0_cells _ _))
 have HZ:=hd_ (ai_ hb0 (ai_ hz0 (ai_ p0 (ai_ x0 (ai_ hT q0)))))
 have HS:=hd_ (ai_ hfin (ai_ (hK3.take k) (ai_ hK2 (ai_ hn0 (ai_ hkc2 (ai_ hkn hk21))))))
 have HTB:=hd_ (fun(W:World) (hW:Below w.heap.size w W)=>hT.below hW)
 obtain⟨FX,hFX⟩:=nm_ (({X with odd:=RR.map cutOd}:Ex))
 rw[hFX]
 have HFX:=hd_ hFX
 have hw21:IntKind.i64.wrap (5+16)=21:=by rw[IntKind.wrap_i64]<;>decide
 have hw21':IntKind.i64.wrap 21=21:=by rw[IntKind.wrap_i64]<;>decide
 clear hb0 hz0 p0 x0 q0 hT hn hK1 hK2 hK3 hn0 htk hX hRR hfin htx hFX hk ht hkn hk21
 go_enter Tryz.func197,Tryz.ntmps197
 go_wp2_with fail
 refine HKI.out.mono ?_
 rintro e W1 ⟨hb1,G,q,rfl,hK⟩
 obtain⟨v0,v1,v2⟩:=box_nd hb1 HZ.out.2.2.2.2.2
 have hqp:q≠w.heap.size+1+1:=by have h1:=hK.hq;have h2:=HZ.out.2.1;omega
 have HQP:=hd_ hqp
 have HB1:=hd_ hb1
 have HK:=hd_ hK
 clear hb1 hK hqp HKI
 go_wp2_with fail
 go_loopg [5,25] 6 (fun gk s5 s25 wx=>∃(i kr:Nat) (Ar:Option Addr) (cr:Nat),s5=.slice Ar kr cr∧s25=.int .i64 i∧i≤5∧5 - i<gk∧Hid (∃xc r d0 d1 d2 d3 d4 d5 d6 d7 d8,TIn PP w W1 (w.heap.size+1+1) q X RR i kr Ar cr wx xc r d0 d1 d2 d3 d4 d5 d6 d7 d8))
 case atStart=>
  refine⟨0,k,K1,ck,rfl,rfl,by omega,by omega,hd_ ⟨ex0,_,_,_,_,_,_,_,_,_,_,fun k hk=>HPP.out.1 k (List.mem_of_mem_take hk),HS.out.1,⟨HK.out.box,(HB1.out.block _ (Array.getElem?_eq_some_iff.1 HZ.out.2.2.2.1).1).trans HZ.out.2.2.2.1,ex0_cells _ _⟩,KB.of (by have h1:=HB1.out.size;have h2:=HZ.out.2.1;omega) (br_ _ _),by rw[List.length_take,HS.out.2.2.2.1];have:=HS.out.2.2.2.2.2.1;omega,HS.out.2.1.mono (fun g hg=>hg.2),HS.out.2.2.2.2.1,HS.out.2.2.1,HS.out.2.2.2.2.2.2⟩⟩
 case round=>
  obtain⟨i,kr,Ar,cr,rfl,rfl,hi,hgk,HI⟩:=hrel
  clear v0 v1 v2 hmin hkc hkc2 hw21 hw21'
  obtain⟨xc,r,d0,d1,d2,d3,d4,d5,d6,d7,d8,hI⟩:=HI.out
  have hpw:w.heap.size+1+1≤W1.heap.size:=by have h1:=HB1.out.size;have h2:=HZ.out.2.1;omega
  have hbw1:Below w.heap.size w W1:=below_then HZ.out.1 HB1.out (lr_ _)
  have hbwr:Below w.heap.size w wr:=hbw1.trans (hI.kb.bel.mono (by omega))
  have h9c:cr≤9223372036854775807:=by have:=hI.cap.2.1;unfold maxLen at this;omega
  by_cases hlt:i<5
  ·have hltz:(i:Int)<5:=by omega
   obtain⟨gk',rfl⟩: ∃g',gk=g'+1:=⟨gk - 1,by omega⟩
   have HN:=hd_ (ai_ (show i+1≤5 from hlt) (ai_ (show 5 - (i+1)<gk' by omega) hlt))
   obtain⟨A3,k3,hin,e0,e1,e2,e3,e4⟩:=(HK.out.on hI.kb.bel.size (fun g h1 h2=>hI.kb.kept g h2 (by have:=HZ.out.2.1;omega))).row i hlt
   have hbx:=below_new wr (.cells #[.slice A3 4 k3,.bool (kcrit i),.bool (kthere ex0 i),.func (.func (saysId i)) #[] #[.pointer (some ⟨q,0,none⟩)],.func (.func (readId i)) #[] #[.pointer (some ⟨q,0,none⟩)]] 124)
   have hqx:=heap_new_ wr (.cells #[.slice A3 4 k3,.bool (kcrit i),.bool (kthere ex0 i),.func (.func (saysId i)) #[] #[.pointer (some ⟨q,0,none⟩)],.func (.func (readId i)) #[] #[.pointer (some ⟨q,0,none⟩)]] 124)
   have hxbk:=hI.xb.below hbx
   have hkbk:=hI.kb.below hpw hbx
   have hbwk:=below_then hbwr hbx (lr_ _)
   by_cases h0:kr=0
   ·subst h0
    have hr0:r=[]:=List.eq_nil_of_length_eq_zero hI.len
    subst hr0
    have hfn:=hI.fin
    rw[ks5_drop hlt] at hfn
    unfold toldL at hfn
    simp only[Prod.mk.injEq] at hfn
    obtain⟨rfl,rfl⟩:=hfn
    have hrl:=hI.len
    have hea:=eachNOd (fun g=>g<w.heap.size) cutOd 237 Ar 0 cr _ _ hI.len (hI.lst.below hbwk) hI.cap.1 hI.cap.2.1 (by have:=hI.cap.2.2;omega) (enters_of Tryz.func237 (by kernel_rfl) rfl)
     (fun o ho V _ c0 c1 c2 hh=>by
       obtain⟨_,_,_,e,hh⟩:=hh
       simp only[List.cons.injEq,and_true] at e
       obtain⟨rfl,rfl,rfl⟩:=e
       exact cutOd_any _ o c0 c1 c2 V hh)
    obtain⟨om,hom0⟩:=nm_ (List.map cutOd [])
    have hom:om.length=0:=by rw[←hom0,List.length_map];exact hrl
    rw[hom0] at hea
    have hxx:=hxbk.x
    obtain⟨q0,hq0⟩:=nm_ (xc.hasCA)
    have z0:=hxx.has
    rw[hq0] at z0
    subst z0
    obtain⟨q1,hq1⟩:=nm_ (xc.ca)
    have z1:=hxx.ca
    rw[hq1] at z1
    subst z1
    obtain⟨q2,hq2⟩:=nm_ (xc.path)
    have z2:=hxx.path
    rw[hq2] at z2
    subst z2
    obtain⟨q3,hq3⟩:=nm_ (xc.usage)
    have z3:=hxx.usage
    rw[hq3] at z3
    subst z3
    obtain⟨B4,j4,z4,_⟩:=id hxx.eku
    obtain⟨q4,hq4⟩:=nm_ (xc.eku.length)
    rw[hq4] at z4
    subst z4
    obtain⟨B5,j5,z5,_⟩:=id hxx.princs
    obtain⟨q5,hq5⟩:=nm_ (xc.princs.length)
    rw[hq5] at z5
    subst z5
    obtain⟨B6,j6,z6,_⟩:=id hxx.permit
    obtain⟨q6,hq6⟩:=nm_ (xc.permit.length)
    rw[hq6] at z6
    subst z6
    obtain⟨B7,j7,z7,_⟩:=id hxx.exclude
    obtain⟨q7,hq7⟩:=nm_ (xc.exclude.length)
    rw[hq7] at z7
    subst z7
    obtain⟨B8,j8,z8,_⟩:=id hxx.odd
    obtain⟨q8,hq8⟩:=nm_ (xc.odd.length)
    rw[hq8] at z8
    subst z8
    have HE:=hd_ hea
    have HL:=hd_ (ai_ hom (ai_ hom0 (ai_ hbwk (ai_ hkbk hxbk))))
    clear hea hom hom0 hxx hrl hI HI hgk hbwr hbw1 hq0 hq1 hq2 hq3 hq4 hq5 hq6 hq7 hq8 hin hbx hqx hxbk hkbk hbwk
    go_wp2_with fail
    refine HE.out.mono ?_
    rintro e w4 ⟨hb4,A9,c9,rfl,o1,o2,o3⟩
    have hom:=HL.out.1
    rw[hom] at o1⊢
    have hxb4:=HL.out.2.2.2.2.below hb4
    have hpp:=hxb4.p
    have f8:=fh_ hpp 8
    have s8:=(ch_ hpp 8).trans rfl
    have hx5:=hxb4.put8 (v:=.slice A9 0 c9) HQP.out (b:=om) ⟨A9,c9,by rw[hom],by rw[hom];exact o1,o2,o3.mono (fun g hg=>by have h1:=HL.out.2.2.2.1.bel.size;have h2:=HB1.out.size;have h3:=HZ.out.2.1;omega)⟩
    have hne:w.heap.size+1≠w.heap.size+1+1:=by omega
    have pE:(w4.setCell ⟨w.heap.size+1+1,8,none⟩ (.slice A9 0 c9)).heap[w.heap.size+1]? =some (.cells #[.bool false,.bool false,.int .i64 0,.int .u16 0,.slice none 0 0,.slice none 0 0,.slice none 0 0,.slice none 0 0,.slice none 0 0] 30):=by
     rw[set_heap_other _ _ _ _ _ hne,hb4.block _ (by have h1:=HL.out.2.2.2.1.bel.size;have h2:=HB1.out.size;have h3:=HZ.out.2.1;omega),HL.out.2.2.2.1.kept _ (by have h2:=HB1.out.size;have h3:=HZ.out.2.1;omega) hne,HB1.out.block _ (by have h3:=HZ.out.2.1;omega)]
     exact HZ.out.2.2.1
    have hbw5:=(below_then HL.out.2.2.1 hb4 (lr_ _)).setCell (p:=⟨w.heap.size+1+1,8,none⟩) (by show w.heap.size≤w.heap.size+1+1;omega) (.slice A9 0 c9)
    obtain⟨_,g0,g1,g2,g3,g4,g5,g6,g7,g8⟩:=hx5.cells
    obtain⟨r0,r1,r2,r3,r4,r5,r6,r7,r8,hBe⟩:=res9 (b:=w.heap.size+1) (y0:=.bool q0) (y1:=.bool q1) (y2:=.int .i64 q2) (y3:=.int .u16 q3) (y4:=.slice B4 q4 j4) (y5:=.slice B5 q5 j5) (y6:=.slice B6 q6 j6) (y7:=.slice B7 q7 j7) (y8:=.slice A9 0 c9) (by omega) hbw5 pE
    have hn9:=res9_ex (b:=w.heap.size+1) (y0:=.bool q0) (y1:=.bool q1) (y2:=.int .i64 q2) (y3:=.int .u16 q3) (y4:=.slice B4 q4 j4) (y5:=.slice B5 q5 j5) (y6:=.slice B6 q6 j6) (y7:=.slice B7 q7 j7) (y8:=.slice A9 0 c9) (fun g hg=>by omega) hx5.x
    have fr0:=fh_ pE 0
    have sr0:=(ch_ pE 0).trans rfl
    have fr1:=fh_ pE 1
    have sr1:=(ch_ pE 1).trans rfl
    have fr2:=fh_ pE 2
    have sr2:=(ch_ pE 2).trans rfl
    have fr3:=fh_ pE 3
    have sr3:=(ch_ pE 3).trans rfl
    have fr4:=fh_ pE 4
    have sr4:=(ch_ pE 4).trans rfl
    have fr5:=fh_ pE 5
    have sr5:=(ch_ pE 5).trans rfl
    have fr6:=fh_ pE 6
    have sr6:=(ch_ pE 6).trans rfl
    have fr7:=fh_ pE 7
    have sr7:=(ch_ pE 7).trans rfl
    have fr8:=fh_ pE 8
    have sr8:=(ch_ pE 8).trans rfl
    have HE9:=hd_ (ai_ hBe (show ExC (fun g=>w.heap.size≤g) _ FX _ _ _ _ _ _ _ _ _ from by rw[←HFX.out,HL.out.2.1];exact hn9.on (lr_ _) (fun _ _ _=>rfl) (fun g hg _=>by omega)))
    clear hBe hn9 pE hpp hx5 hxb4 hbw5 hne hom o1 o2 o3 hb4 HE HL
    go_wp2
    refine bodyPost_ret (v:=.agg #[.bool q0,.bool q1,.int .i64 q2,.int .u16 q3,.slice B4 q4 j4,.slice B5 q5 j5,.slice B6 q6 j6,.slice B7 q7 j7,.slice A9 0 c9]) ?_ rfl ⟨HE9.out.1,_,_,_,_,_,_,_,_,_,rfl,HE9.out.2⟩
    simp[results,Tryz.results197,go_sem,r0,r1,r2,r3,r4,r5,r6,r7,r8]
   ·obtain⟨rk,rs,hrr⟩: ∃a l,r=a::l:=by
     cases r with
     |nil=>exact absurd hI.len.symm h0
     |cons a l=>exact⟨a,l,rfl⟩
    subst hrr
    have hlen:=hI.len
    obtain⟨g,off,t2,A2,l2,k2,K2,m2,n2,hAr,f0,f1,f2,hn2⟩:=nd_cells hI.lst hbwk 0 (by simp)
    subst hAr
    rw[show off+0*3=off by omega] at f0 f1 f2
    have hn2:NdC (fun g=>g<w.heap.size) _ rk _ _ _:=hn2
    obtain⟨o,ho⟩:=nm_ (oddOfF rk)
    have hodd:=oddOf_any (fun g=>g<w.heap.size) rk _ _ _ _ hn2
    rw[ho] at hodd
    have HC:=hd_ hodd
    have HO:=hd_ ho
    have hz1:((kr:Int)==0)=false:=by rw[beq_eq_false_iff_ne];omega
    have hz2: ¬(kr:Int)=0:=by omega
    have hz3:(0:Int)< (kr:Int):=by omega
    have hz4:(1:Int)≤(kr:Int):=by omega
    have HIN:=hd_ (hin.below hbx)
    have HBX:=hd_ (ai_ hbx (ai_ hqx hbwk))
    have HXB:=hd_ (ai_ hxbk hkbk)
    have HII:=hd_ hI
    have HPW:=hd_ hpw
    have HH0:=hd_ (ai_ h0 hlen)
    clear hodd ho hn2 hin hbx hqx hbwk hxbk hkbk hI hpw hlen h0 hbwr hbw1 hgk HI
    go_wp2_with fail
    refine HC.out.mono ?_
    rintro e w4 ⟨hb4,A4,l4,j4,K4,m4,n4,rfl,hin4,hby4⟩
    obtain⟨oc,hoc⟩:=nm_ (o.crit)
    rw[hoc]
    have hnb:=below_new w4 (.cells #[.slice A4 l4 j4,.bool oc,.slice K4 m4 n4] 109)
    have hq4:=heap_new_ w4 (.cells #[.slice A4 l4 j4,.bool oc,.slice K4 m4 n4] 109)
    have hb44:=below_then hb4 hnb (lr_ _)
    obtain⟨u0,u1,u2,u3,u4⟩:=box5 hb44 HBX.out.2.1
    obtain⟨sb,hsb⟩:=nm_ (decide (o.oid=koid i))
    have hia:=(hin4.below hnb).ins
    have hib:=(HIN.out.below hb44).ins
    have hqq:=ieq_b A4 A3 l4 j4 4 k3 o.oid (koid i) _ hia.1 hib.1 (Nat.le_trans hia.2.1 hia.2.2.1)
    rw[hsb] at hqq
    have HQ:=hd_ hqq
    have HSB:=hd_ hsb
    have HBY:=hd_ (ai_ hb44 (ai_ hq4 (hby4.below hnb)))
    clear hqq hsb hoc hia hib hnb hq4 hb4 hb44 hin4 hby4 f0 f1 f2 e0 e1 e2 e3 e4 HC
    go_wp2_with fail
    refine HQ.out.mono ?_
    rintro e w5 ⟨rfl,hb5⟩
    have hb45:=below_then HBY.out.1 hb5 (lr_ _)
    have hbw5:=below_then HBX.out.2.2 hb45 (lr_ _)
    clear u0 u1 u2 u3 u4
    cases sb
    ·have HF:=hd_ (show∃xc r d0 d1 d2 d3 d4 d5 d6 d7 d8,TIn PP w W1 (w.heap.size+1+1) q X RR (i+1) kr (some ⟨g,off,none⟩) cr w5 xc r d0 d1 d2 d3 d4 d5 d6 d7 d8 from⟨xc,rk::rs,_,_,_,_,_,_,_,_,_,HII.out.pp,toldL_no HN.out.2.2 HII.out.fin (by rw[HO.out];exact of_decide_eq_false HSB.out),HXB.out.1.below hb45,HXB.out.2.below HPW.out hb45,HII.out.len,HII.out.lst,HII.out.cap⟩)
     clear hb45 hb5 hbw5 HQ HBY HBX HIN HXB HII HH0
     go_wp2
     go_roundg gk'
     case measure=>omega
     case rel=>exact⟨i+1,kr,_,cr,rfl,by go_num,HN.out.1,HN.out.2.1,HF⟩
    ·obtain⟨p0,p1,p2⟩:=box_nd hb5 HBY.out.2.1
     have hbys:=(HBY.out.2.2.below hb5).bys
     have hpar:=parse_any K4 m4 n4 o.body w5 hbys.1 hbys.2.1 hbys.2.2.1 (HTB.out w5 hbw5)
     have HP:=hd_ hpar
     have HB5:=hd_ (ai_ hb45 hbw5)
     clear hbys hpar hb45 hbw5 hb5 HQ HIN
     go_wp2_with fail
     refine HP.out.mono ?_
     intro e w6 hpp
     obtain⟨hb6,t6,A6,l6,j6,K6,m6,n6,a6,er6,rfl,hn6⟩:=told_parse hpp
     clear hpp
     have hnb:=below_new w6 (.cells #[.int .u8 t6,.slice A6 l6 j6,.slice K6 m6 n6] 49)
     have hb66:=below_then hb6 hnb (lr_ _)
     have hb46:=below_then HB5.out.1 hb66 (lr_ _)
     have hbw6:=below_then HB5.out.2 hb66 (lr_ _)
     obtain⟨u0,u1,u2,u3,u4⟩:=box5 hb46 HBX.out.2.1
     have hsz:w.heap.size+1+1<w5.heap.size:=by have h1:=HXB.out.2.bel.size;have h2:=HB5.out.1.size;have h3:=HPW.out;have h4:=HB1.out.size;have h5:=HZ.out.2.1;omega
     have hrd:=HPP.out.2 i rk HN.out.2.2 (HII.out.pp rk (by simp)) (by rw[HO.out];exact of_decide_eq_true HSB.out) xc (parsedF o.body) _ _ _ q (w.heap.size+1+1) _ _ _ _ _ _ _ _ _ _ (HXB.out.1.below hb46) HQP.out (NdC.mono (fun g (hg:w5.heap.size≤g)=>(by omega:w.heap.size+1+1<g)) _ _ _ _ (NdC.below hnb _ _ _ _ hn6)) (fun W hW=>HTB.out W (hbw6.trans (hW.mono (by omega))))
     have hkb6:=HXB.out.2.below HPW.out hb46
     have hent: ∀args w,(callFunc (readId i) args).run Tryz.prog w=.ok (.enter (readId i) args) w:=fun args w=>read_ent i HN.out.2.2 args w
     obtain⟨rid,hrid⟩:=nm_ (readId i)
     rw[hrid] at hrd hent u4
     have HR:=hd_ hrd
     have HKB:=hd_ hkb6
     clear hnb hb6 hb66 hb46 hbw6 hsz hrd hkb6 hn6 hrid HP p0 p1 p2
     go_wp2_with fail
     refine HR.out.mono ?_
     rintro e w7 ⟨rfl,hkb7,y0,y1,y2,y3,y4,y5,y6,y7,y8,hxb7⟩
     have HK7:=hd_ (ai_ (HKB.out.then hkb7) hxb7)
     have h1k:=HH0.out.1
     have h2k:=HII.out.cap.1
     have hz5:(1:Int)≤(cr:Int):=by omega
     have hz6:(kr:Int)≤(cr:Int):=by omega
     have hz7:((kr:Int) - 1).toNat=kr - 1:=by omega
     have hz8:((cr:Int) - 1).toNat=cr - 1:=by omega
     obtain⟨AA,hAA⟩:=nm_ ((if cr=1 then some (⟨g,off,none⟩:Addr) else some ⟨g,off+3,none⟩))
     have HAA:=hd_ hAA
     clear hkb7 hxb7 HR HKB u0 u1 u2 u3 u4 h1k h2k
     have HF:=hd_ (show∃xc r d0 d1 d2 d3 d4 d5 d6 d7 d8,TIn PP w W1 (w.heap.size+1+1) q X RR (i+1) (kr - 1) AA (cr - 1) w7 xc r d0 d1 d2 d3 d4 d5 d6 d7 d8 from⟨_,rs,_,_,_,_,_,_,_,_,_,fun k hk=>HII.out.pp k (List.mem_cons_of_mem _ hk),by rw[←HO.out];exact toldL_yes HN.out.2.2 HII.out.fin (by rw[HO.out];exact of_decide_eq_true HSB.out),HK7.out.2,HK7.out.1,by have:=HH0.out.2;rw[List.length_cons] at this;omega,by rw[←HAA.out];exact tail_lst HII.out.len HII.out.lst (by have:=HH0.out.1;omega) HII.out.cap.1,by have h1:=HII.out.cap;have h2:=HH0.out.1;exact⟨by omega,by omega,by omega⟩⟩)
     clear HK7 HII HH0 HSB HO HBX HXB HBY HB5
     go_wp2_with fail
     go_roundg gk'
     case measure=>omega
     case rel=>exact⟨i+1,kr - 1,AA,cr - 1,rfl,by go_num,HN.out.1,HN.out.2.1,HF⟩
  ·obtain rfl:i=5:=by omega
   have hltz: ¬(5:Int)<5:=by omega
   have hfn:=hI.fin
   rw[show ks5.drop 5=[] from rfl] at hfn
   unfold toldL at hfn
   simp only[Prod.mk.injEq] at hfn
   obtain⟨rfl,rfl⟩:=hfn
   have hrl:=hI.len
   have hea:=eachNOd (fun g=>g<w.heap.size) cutOd 237 Ar kr cr _ wr hI.len (hI.lst.below hbwr) hI.cap.1 hI.cap.2.1 (by have:=hI.cap.2.2;omega) (enters_of Tryz.func237 (by kernel_rfl) rfl)
    (fun o ho V _ c0 c1 c2 hh=>by
      obtain⟨_,_,_,e,hh⟩:=hh
      simp only[List.cons.injEq,and_true] at e
      obtain⟨rfl,rfl,rfl⟩:=e
      exact cutOd_any _ o c0 c1 c2 V hh)
   obtain⟨om,hom0⟩:=nm_ (List.map cutOd r)
   have hom:om.length=kr:=by rw[←hom0,List.length_map];exact hrl
   rw[hom0] at hea
   have hxx:=hI.xb.x
   obtain⟨q0,hq0⟩:=nm_ (xc.hasCA)
   have z0:=hxx.has
   rw[hq0] at z0
   subst z0
   obtain⟨q1,hq1⟩:=nm_ (xc.ca)
   have z1:=hxx.ca
   rw[hq1] at z1
   subst z1
   obtain⟨q2,hq2⟩:=nm_ (xc.path)
   have z2:=hxx.path
   rw[hq2] at z2
   subst z2
   obtain⟨q3,hq3⟩:=nm_ (xc.usage)
   have z3:=hxx.usage
   rw[hq3] at z3
   subst z3
   obtain⟨B4,j4,z4,_⟩:=id hxx.eku
   obtain⟨q4,hq4⟩:=nm_ (xc.eku.length)
   rw[hq4] at z4
   subst z4
   obtain⟨B5,j5,z5,_⟩:=id hxx.princs
   obtain⟨q5,hq5⟩:=nm_ (xc.princs.length)
   rw[hq5] at z5
   subst z5
   obtain⟨B6,j6,z6,_⟩:=id hxx.permit
   obtain⟨q6,hq6⟩:=nm_ (xc.permit.length)
   rw[hq6] at z6
   subst z6
   obtain⟨B7,j7,z7,_⟩:=id hxx.exclude
   obtain⟨q7,hq7⟩:=nm_ (xc.exclude.length)
   rw[hq7] at z7
   subst z7
   obtain⟨B8,j8,z8,_⟩:=id hxx.odd
   obtain⟨q8,hq8⟩:=nm_ (xc.odd.length)
   rw[hq8] at z8
   subst z8
   have HE:=hd_ hea
   have HL:=hd_ (ai_ hom (ai_ hom0 (ai_ hbwr (ai_ hI.kb hI.xb))))
   clear hea hom hom0 hxx hrl hI HI hgk hbwr hbw1 hq0 hq1 hq2 hq3 hq4 hq5 hq6 hq7 hq8
   go_wp2_with fail
   refine HE.out.mono ?_
   rintro e w4 ⟨hb4,A9,c9,rfl,o1,o2,o3⟩
   have hom:=HL.out.1
   rw[hom] at o1⊢
   have hxb4:=HL.out.2.2.2.2.below hb4
   have hpp:=hxb4.p
   have f8:=fh_ hpp 8
   have s8:=(ch_ hpp 8).trans rfl
   have hx5:=hxb4.put8 (v:=.slice A9 kr c9) HQP.out (b:=om) ⟨A9,c9,by rw[hom],by rw[hom];exact o1,o2,o3.mono (fun g hg=>by have h1:=HL.out.2.2.2.1.bel.size;have h2:=HB1.out.size;have h3:=HZ.out.2.1;omega)⟩
   have hne:w.heap.size+1≠w.heap.size+1+1:=by omega
   have pE:(w4.setCell ⟨w.heap.size+1+1,8,none⟩ (.slice A9 kr c9)).heap[w.heap.size+1]? =some (.cells #[.bool false,.bool false,.int .i64 0,.int .u16 0,.slice none 0 0,.slice none 0 0,.slice none 0 0,.slice none 0 0,.slice none 0 0] 30):=by
    rw[set_heap_other _ _ _ _ _ hne,hb4.block _ (by have h1:=HL.out.2.2.2.1.bel.size;have h2:=HB1.out.size;have h3:=HZ.out.2.1;omega),HL.out.2.2.2.1.kept _ (by have h2:=HB1.out.size;have h3:=HZ.out.2.1;omega) hne,HB1.out.block _ (by have h3:=HZ.out.2.1;omega)]
    exact HZ.out.2.2.1
   have hbw5:=(below_then HL.out.2.2.1 hb4 (lr_ _)).setCell (p:=⟨w.heap.size+1+1,8,none⟩) (by show w.heap.size≤w.heap.size+1+1;omega) (.slice A9 kr c9)
   obtain⟨_,g0,g1,g2,g3,g4,g5,g6,g7,g8⟩:=hx5.cells
   obtain⟨r0,r1,r2,r3,r4,r5,r6,r7,r8,hBe⟩:=res9 (b:=w.heap.size+1) (y0:=.bool q0) (y1:=.bool q1) (y2:=.int .i64 q2) (y3:=.int .u16 q3) (y4:=.slice B4 q4 j4) (y5:=.slice B5 q5 j5) (y6:=.slice B6 q6 j6) (y7:=.slice B7 q7 j7) (y8:=.slice A9 kr c9) (by omega) hbw5 pE
   have hn9:=res9_ex (b:=w.heap.size+1) (y0:=.bool q0) (y1:=.bool q1) (y2:=.int .i64 q2) (y3:=.int .u16 q3) (y4:=.slice B4 q4 j4) (y5:=.slice B5 q5 j5) (y6:=.slice B6 q6 j6) (y7:=.slice B7 q7 j7) (y8:=.slice A9 kr c9) (fun g hg=>by omega) hx5.x
   have fr0:=fh_ pE 0
   have sr0:=(ch_ pE 0).trans rfl
   have fr1:=fh_ pE 1
   have sr1:=(ch_ pE 1).trans rfl
   have fr2:=fh_ pE 2
   have sr2:=(ch_ pE 2).trans rfl
   have fr3:=fh_ pE 3
   have sr3:=(ch_ pE 3).trans rfl
   have fr4:=fh_ pE 4
   have sr4:=(ch_ pE 4).trans rfl
   have fr5:=fh_ pE 5
   have sr5:=(ch_ pE 5).trans rfl
   have fr6:=fh_ pE 6
   have sr6:=(ch_ pE 6).trans rfl
   have fr7:=fh_ pE 7
   have sr7:=(ch_ pE 7).trans rfl
   have fr8:=fh_ pE 8
   have sr8:=(ch_ pE 8).trans rfl
   have HE9:=hd_ (ai_ hBe (show ExC (fun g=>w.heap.size≤g) _ FX _ _ _ _ _ _ _ _ _ from by rw[←HFX.out,HL.out.2.1];exact hn9.on (lr_ _) (fun _ _ _=>rfl) (fun g hg _=>by omega)))
   clear hBe hn9 pE hpp hx5 hxb4 hbw5 hne hom o1 o2 o3 hb4 HE HL
   go_wp2
   refine bodyPost_ret (v:=.agg #[.bool q0,.bool q1,.int .i64 q2,.int .u16 q3,.slice B4 q4 j4,.slice B5 q5 j5,.slice B6 q6 j6,.slice B7 q7 j7,.slice A9 kr c9]) ?_ rfl ⟨HE9.out.1,_,_,_,_,_,_,_,_,_,rfl,HE9.out.2⟩
   simp[results,Tryz.results197,go_sem,r0,r1,r2,r3,r4,r5,r6,r7,r8]
theorem told_any (B:Nat→Prop)(n:Nd)(c0 c1 c2:Value)(w:World)(hn:NdC B w n c0 c1 c2)(hT:Tabs w):
 Calls Tryz.prog 197 #[.agg #[c0,c1,c2]] w (XVal (fun g=>w.heap.size≤g) w (toldX n)):=toldH_any (fun _=>True) B n c0 c1 c2 w hn hT (fun _ _=>trivial) (fun i _ hi _ _ x n n0 n1 n2 q p c0 c1 c2 c3 c4 c5 c6 c7 c8 w hX hqp hn hTB=>read_all x n n0 n1 n2 q p c0 c1 c2 c3 c4 c5 c6 c7 c8 w hX hqp hn hTB i hi)
end Go.Proofs.YtjanfogifehhmaaGreatDoor.nmc
