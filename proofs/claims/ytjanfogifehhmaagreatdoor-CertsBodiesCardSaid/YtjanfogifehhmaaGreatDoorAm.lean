/- The program's closures that read what each of the five known -/
import Derived.Test.YtjanfogifehhmaaGreatDoorAk
import Derived.Test.YtjanfogifehhmaaGreatDoorIe
set_option maxRecDepth 100000
set_option maxHeartbeats 8000000
set_option linter.unusedVariables false
set_option linter.unusedSimpArgs false
namespace Go.Proofs.YtjanfogifehhmaaGreatDoor.nmc
open Go.RowKit tlvc tlvd ndc txc txm intc intm
structure KB (p:Nat) (w w':World):Prop where
 bel:Below p w w'
 kept: ∀g,g<w.heap.size→g≠p→w'.heap[g]? =w.heap[g]?
theorem KB.of {p:Nat}{w w':World}(hp:p≤w.heap.size)(h:Below w.heap.size w w'):KB p w w':=⟨h.mono hp,fun g hg _=>h.block g hg⟩
theorem KB.set {p:Nat}{w w':World}(h:KB p w w')(i:Nat)(v:Value):KB p w (w'.setCell ⟨p,i,none⟩ v):=
 ⟨h.bel.setCell (show p≤(⟨p,i,none⟩:Addr).block from lr_ _) v,fun g hg hne=>by rw[set_heap_other _ _ _ _ _ hne];exact h.kept g hg hne⟩
theorem KB.then {p:Nat}{w w1 w2:World}(h:KB p w w1)(k:KB p w1 w2):KB p w w2:=
 ⟨h.bel.trans k.bel,fun g hg hne=>(k.kept g (Nat.lt_of_lt_of_le hg h.bel.size) hne).trans (h.kept g hg hne)⟩
theorem KB.below {p:Nat}{w w1 w2:World}(hp:p≤w.heap.size)(h:KB p w w1)(k:Below w1.heap.size w1 w2):KB p w w2:=h.then (KB.of (Nat.le_trans hp h.bel.size) k)
theorem KB.cell {p:Nat}{w w':World}(h:KB p w w'){a:Addr}{v:Value}(ha:w.cell? a=some v)(hne:a.block≠p):w'.cell? a=some v:=by
 have:=World.block_lt_of_cell? w a ha
 exact(World.cell?_of_block (h.kept _ this hne)).trans ha
theorem ExC.set {p:Nat}{w:World}{x:Ex}{c0 c1 c2 c3 c4 c5 c6 c7 c8:Value}(h:ExC (fun g=>p<g) w x c0 c1 c2 c3 c4 c5 c6 c7 c8)(i:Nat)(v:Value):ExC (fun g=>p<g) (w.setCell ⟨p,i,none⟩ v) x c0 c1 c2 c3 c4 c5 c6 c7 c8:=
 h.on (by rw[set_size];exact lr_ _) (fun g hg _=>set_heap_other _ _ _ _ _ (Nat.ne_of_gt hg)) (fun g hg _=>hg)
theorem LsC.set {α:Type}{E:El α}{p:Nat}{w:World}{xs:List α}{c0:Value}(h:LsC E (fun g=>p<g) w xs c0)(i:Nat)(v:Value):LsC E (fun g=>p<g) (w.setCell ⟨p,i,none⟩ v) xs c0:=
 h.on (by rw[set_size];exact lr_ _) (fun g hg _=>set_heap_other _ _ _ _ _ (Nat.ne_of_gt hg)) (fun g hg _=>hg)
theorem XB.put0 {w:World}{q p:Nat}{x:Ex}{c0 c1 c2 c3 c4 c5 c6 c7 c8 v:Value}(hqp:q≠p)(h:XB (fun g=>p<g) w q p x c0 c1 c2 c3 c4 c5 c6 c7 c8){b:Bool}(hv:v=.bool b):XB (fun g=>p<g) (w.setCell ⟨p,0,none⟩ v) q p {x with hasCA:=b} v c1 c2 c3 c4 c5 c6 c7 c8:=
 ⟨by rw[set_heap_other _ _ _ _ _ hqp];exact h.q,set_heap _ _ 0 v _ _ _ h.p,hv,(h.x.set 0 v).ca,(h.x.set 0 v).path,(h.x.set 0 v).i64,(h.x.set 0 v).usage,(h.x.set 0 v).u16,(h.x.set 0 v).eku,(h.x.set 0 v).princs,(h.x.set 0 v).permit,(h.x.set 0 v).exclude,(h.x.set 0 v).odd⟩
theorem XB.put1 {w:World}{q p:Nat}{x:Ex}{c0 c1 c2 c3 c4 c5 c6 c7 c8 v:Value}(hqp:q≠p)(h:XB (fun g=>p<g) w q p x c0 c1 c2 c3 c4 c5 c6 c7 c8){b:Bool}(hv:v=.bool b):XB (fun g=>p<g) (w.setCell ⟨p,1,none⟩ v) q p {x with ca:=b} c0 v c2 c3 c4 c5 c6 c7 c8:=
 ⟨by rw[set_heap_other _ _ _ _ _ hqp];exact h.q,set_heap _ _ 1 v _ _ _ h.p,(h.x.set 1 v).has,hv,(h.x.set 1 v).path,(h.x.set 1 v).i64,(h.x.set 1 v).usage,(h.x.set 1 v).u16,(h.x.set 1 v).eku,(h.x.set 1 v).princs,(h.x.set 1 v).permit,(h.x.set 1 v).exclude,(h.x.set 1 v).odd⟩
theorem XB.put2 {w:World}{q p:Nat}{x:Ex}{c0 c1 c2 c3 c4 c5 c6 c7 c8 v:Value}(hqp:q≠p)(h:XB (fun g=>p<g) w q p x c0 c1 c2 c3 c4 c5 c6 c7 c8){b:Int}(hv:v=.int .i64 b)(hb: -9223372036854775808≤b∧b≤9223372036854775807):XB (fun g=>p<g) (w.setCell ⟨p,2,none⟩ v) q p {x with path:=b} c0 c1 v c3 c4 c5 c6 c7 c8:=
 ⟨by rw[set_heap_other _ _ _ _ _ hqp];exact h.q,set_heap _ _ 2 v _ _ _ h.p,(h.x.set 2 v).has,(h.x.set 2 v).ca,hv,hb,(h.x.set 2 v).usage,(h.x.set 2 v).u16,(h.x.set 2 v).eku,(h.x.set 2 v).princs,(h.x.set 2 v).permit,(h.x.set 2 v).exclude,(h.x.set 2 v).odd⟩
theorem XB.put3 {w:World}{q p:Nat}{x:Ex}{c0 c1 c2 c3 c4 c5 c6 c7 c8 v:Value}(hqp:q≠p)(h:XB (fun g=>p<g) w q p x c0 c1 c2 c3 c4 c5 c6 c7 c8){b:Int}(hv:v=.int .u16 b)(hb:0≤b∧b≤65535):XB (fun g=>p<g) (w.setCell ⟨p,3,none⟩ v) q p {x with usage:=b} c0 c1 c2 v c4 c5 c6 c7 c8:=
 ⟨by rw[set_heap_other _ _ _ _ _ hqp];exact h.q,set_heap _ _ 3 v _ _ _ h.p,(h.x.set 3 v).has,(h.x.set 3 v).ca,(h.x.set 3 v).path,(h.x.set 3 v).i64,hv,hb,(h.x.set 3 v).eku,(h.x.set 3 v).princs,(h.x.set 3 v).permit,(h.x.set 3 v).exclude,(h.x.set 3 v).odd⟩
theorem XB.put4 {w:World}{q p:Nat}{x:Ex}{c0 c1 c2 c3 c4 c5 c6 c7 c8 v:Value}(hqp:q≠p)(h:XB (fun g=>p<g) w q p x c0 c1 c2 c3 c4 c5 c6 c7 c8){b:_}(hv:LsC inE (fun g=>p<g) w b v):XB (fun g=>p<g) (w.setCell ⟨p,4,none⟩ v) q p {x with eku:=b} c0 c1 c2 c3 v c5 c6 c7 c8:=
 ⟨by rw[set_heap_other _ _ _ _ _ hqp];exact h.q,set_heap _ _ 4 v _ _ _ h.p,(h.x.set 4 v).has,(h.x.set 4 v).ca,(h.x.set 4 v).path,(h.x.set 4 v).i64,(h.x.set 4 v).usage,(h.x.set 4 v).u16,hv.set 4 v,(h.x.set 4 v).princs,(h.x.set 4 v).permit,(h.x.set 4 v).exclude,(h.x.set 4 v).odd⟩
theorem XB.put5 {w:World}{q p:Nat}{x:Ex}{c0 c1 c2 c3 c4 c5 c6 c7 c8 v:Value}(hqp:q≠p)(h:XB (fun g=>p<g) w q p x c0 c1 c2 c3 c4 c5 c6 c7 c8){b:_}(hv:LsC prE (fun g=>p<g) w b v):XB (fun g=>p<g) (w.setCell ⟨p,5,none⟩ v) q p {x with princs:=b} c0 c1 c2 c3 c4 v c6 c7 c8:=
 ⟨by rw[set_heap_other _ _ _ _ _ hqp];exact h.q,set_heap _ _ 5 v _ _ _ h.p,(h.x.set 5 v).has,(h.x.set 5 v).ca,(h.x.set 5 v).path,(h.x.set 5 v).i64,(h.x.set 5 v).usage,(h.x.set 5 v).u16,(h.x.set 5 v).eku,hv.set 5 v,(h.x.set 5 v).permit,(h.x.set 5 v).exclude,(h.x.set 5 v).odd⟩
theorem XB.put6 {w:World}{q p:Nat}{x:Ex}{c0 c1 c2 c3 c4 c5 c6 c7 c8 v:Value}(hqp:q≠p)(h:XB (fun g=>p<g) w q p x c0 c1 c2 c3 c4 c5 c6 c7 c8){b:_}(hv:LsC nmE (fun g=>p<g) w b v):XB (fun g=>p<g) (w.setCell ⟨p,6,none⟩ v) q p {x with permit:=b} c0 c1 c2 c3 c4 c5 v c7 c8:=
 ⟨by rw[set_heap_other _ _ _ _ _ hqp];exact h.q,set_heap _ _ 6 v _ _ _ h.p,(h.x.set 6 v).has,(h.x.set 6 v).ca,(h.x.set 6 v).path,(h.x.set 6 v).i64,(h.x.set 6 v).usage,(h.x.set 6 v).u16,(h.x.set 6 v).eku,(h.x.set 6 v).princs,hv.set 6 v,(h.x.set 6 v).exclude,(h.x.set 6 v).odd⟩
theorem XB.put7 {w:World}{q p:Nat}{x:Ex}{c0 c1 c2 c3 c4 c5 c6 c7 c8 v:Value}(hqp:q≠p)(h:XB (fun g=>p<g) w q p x c0 c1 c2 c3 c4 c5 c6 c7 c8){b:_}(hv:LsC nmE (fun g=>p<g) w b v):XB (fun g=>p<g) (w.setCell ⟨p,7,none⟩ v) q p {x with exclude:=b} c0 c1 c2 c3 c4 c5 c6 v c8:=
 ⟨by rw[set_heap_other _ _ _ _ _ hqp];exact h.q,set_heap _ _ 7 v _ _ _ h.p,(h.x.set 7 v).has,(h.x.set 7 v).ca,(h.x.set 7 v).path,(h.x.set 7 v).i64,(h.x.set 7 v).usage,(h.x.set 7 v).u16,(h.x.set 7 v).eku,(h.x.set 7 v).princs,(h.x.set 7 v).permit,hv.set 7 v,(h.x.set 7 v).odd⟩
theorem XB.put8 {w:World}{q p:Nat}{x:Ex}{c0 c1 c2 c3 c4 c5 c6 c7 c8 v:Value}(hqp:q≠p)(h:XB (fun g=>p<g) w q p x c0 c1 c2 c3 c4 c5 c6 c7 c8){b:_}(hv:LsC odE (fun g=>p<g) w b v):XB (fun g=>p<g) (w.setCell ⟨p,8,none⟩ v) q p {x with odd:=b} c0 c1 c2 c3 c4 c5 c6 c7 v:=
 ⟨by rw[set_heap_other _ _ _ _ _ hqp];exact h.q,set_heap _ _ 8 v _ _ _ h.p,(h.x.set 8 v).has,(h.x.set 8 v).ca,(h.x.set 8 v).path,(h.x.set 8 v).i64,(h.x.set 8 v).usage,(h.x.set 8 v).u16,(h.x.set 8 v).eku,(h.x.set 8 v).princs,(h.x.set 8 v).permit,(h.x.set 8 v).exclude,hv.set 8 v⟩
def ReadPost (w:World)(q p:Nat)(x:Ex)(e:Ending)(w':World):Prop:=e=.returned (.tuple #[])∧KB p w w'∧∃c0 c1 c2 c3 c4 c5 c6 c7 c8,XB (fun g=>p<g) w' q p x c0 c1 c2 c3 c4 c5 c6 c7 c8
theorem read2_any (x:Ex)(n:Nd)(n0 n1 n2:Value)(q p:Nat)(c0 c1 c2 c3 c4 c5 c6 c7 c8:Value)(w:World)(hX:XB (fun g=>p<g) w q p x c0 c1 c2 c3 c4 c5 c6 c7 c8)(hqp:q≠p)(hn:NdC (fun g=>p<g) w n n0 n1 n2):
 Calls Tryz.prog 153 #[.agg #[n0,n1,n2],.pointer (some ⟨q,0,none⟩)] w (ReadPost w q p (readX 2 x n)):=by
 have mixed:Tryz.prog.follows Departure.mixedOrders=true:=by kernel_rfl
 obtain⟨t,A1,l1,k1,K1,m1,u1,rfl,rfl,rfl⟩:=hn.shape
 obtain⟨W0,hW0⟩:=nm_ (w.alloc (.cells #[.int .u8 t,.slice A1 l1 k1,.slice K1 m1 u1] 49))
 have hb0:Below w.heap.size w W0:=by rw[←hW0];exact below_new _ _
 have q0:W0.heap[w.heap.size]? =some (.cells #[.int .u8 t,.slice A1 l1 k1,.slice K1 m1 u1] 49):=by rw[←hW0];exact heap_new_ _ _
 have hz:=hX.size
 obtain⟨x0,x1,x2⟩:=box_nd (br_ _ W0) q0
 obtain⟨d0,_⟩:=(hX.below hb0).cells
 have hent:=enters_of Tryz.func156 (by kernel_rfl) rfl
 have HENT:=hd_ hent
 have HX:=hd_ (fun W (hW:Below W0.heap.size W0 W)=>ai_ ((hX.below (below_then hb0 hW (lr_ _))).cells.1) (box_nd hW q0))
 have HXB:=hd_ (fun W (hW:Below W0.heap.size W0 W)=>hX.below (below_then hb0 hW (lr_ _)))
 have HB:=hd_ (ai_ hb0 (ai_ hz hqp))
 have HW0:=hd_ hW0
 have HLI:=hd_ (fun W (hW:Below W0.heap.size W0 W)=>listed_any (fun g=>p<g) n _ _ _ W (NdC.below (below_then hb0 hW (lr_ _)) _ _ _ _ hn))
 obtain⟨fin,hfin⟩:=nm_ (readX 2 x n)
 have HFIN:=hd_ (show {x with eku:=(listedF n).map oidZ}=fin from hfin)
 rw[hfin]
 clear hb0 q0 hz hX hn hqp hW0 hfin hent
 go_enter Tryz.func153,Tryz.ntmps153
 go_wp2_with fail
 try dsimp only
 (try rw[HW0.out])
 try dsimp only
 refine wp_region_noPanic ?_
 refine wp_region_held_drew (S:=fun wx:World=>wx.cell? ⟨q,0,none⟩=some (.pointer (some ⟨p,0,none⟩))∧wx.cell? ⟨w.heap.size,0,none⟩=some (.int .u8 t)∧wx.cell? ⟨w.heap.size,1,none⟩=some (.slice A1 l1 k1)∧wx.cell? ⟨w.heap.size,2,none⟩=some (.slice K1 m1 u1)) mixed ⟨d0,x0,x1,x2⟩ (fun hHeld=>?_)
 have hbd:=below_drew W0
 obtain⟨wd,hwd⟩:=nm_ (W0.drew)
 rw[hwd] at hHeld hbd⊢
 clear hwd
 refine tk_ (i:=0) (z:=?_)
 refine tk_ (i:=1) (z:=?_)
 refine on_ (i:=2) (z:=fun KK hKK=>?_)
 go_simp
 refine(HLI.out _ hbd).mono ?_
 rintro e w3 ⟨hb3,A3,k3,rfl,i1,i2,hl3⟩
 dsimp only
 have hb3:=below_then hbd hb3 (lr_ _)
 have hl16:(listedF n).length≤1000:=by unfold listedF;rw[List.length_take];omega
 refine hKK.out _ _ (HX.out _ hb3) (fun hHeld=>?_)
 clear hKK KK
 try simp only[Act.put,qa_,qb_,qc_]
 refine on_ (i:=3) (z:=fun KK hKK=>?_)
 go_simp
 refine(eachNIn (fun g=>p<g) oidZ 156 A3 _ k3 (listedF n) w3 rfl hl3 i1 i2 hl16 HENT.out (fun y _ V _ c0 c1 c2 hold=>by
  obtain⟨_,_,_,e,hnn⟩:=hold
  simp only[List.cons.injEq,and_true] at e
  obtain⟨rfl,rfl,rfl⟩:=e
  exact objectOf_any _ y _ _ _ V hnn)).mono ?_
 rintro e w4 ⟨hb4,A5,c5,rfl,j1,j2,hl5⟩
 dsimp only
 have hlv:LsC inE (fun g=>p<g) w4 ((listedF n).map oidZ) (.slice A5 (listedF n).length c5):=⟨A5,c5,by rw[List.length_map],j1,j2,hl5.mono (fun g hg=>by have h1:=hb3.size;have h2:=HB.out.2.1.2;have h3:=HB.out.1.size;omega)⟩
 have hb4:=below_then hb3 hb4 (lr_ _)
 refine hKK.out _ _ (HX.out _ hb4) (fun hHeld=>?_)
 clear hKK KK
 try simp only[Act.put,qa_,qb_,qc_]
 refine tk_ (i:=4) (z:=?_)
 refine tk_ (i:=5) (z:=?_)
 have hxb:=HXB.out _ hb4
 have hpp:=hxb.p
 have f0:=fh_ hpp 4
 have s0:=(ch_ hpp 4).trans rfl
 have hfx:=hxb.put4 HB.out.2.2 hlv
 have hkb:=(KB.of (Nat.le_of_lt HB.out.2.1.2) (below_then HB.out.1 hb4 (lr_ _))).set 4 (.slice A5 (listedF n).length c5)
 obtain⟨z0,z1,z2,z3⟩:=HX.out _ hb4
 have hne:w.heap.size≠p:=by have:=HB.out.2.1.2;omega
 have hcb:=ai_ ((cell_same (set_heap_other w4 p 4 q (.slice A5 (listedF n).length c5) HB.out.2.2)).trans z0) (ai_ ((cell_same (set_heap_other w4 p 4 w.heap.size (.slice A5 (listedF n).length c5) hne)).trans z1) (ai_ ((cell_same (set_heap_other w4 p 4 w.heap.size (.slice A5 (listedF n).length c5) hne)).trans z2) ((cell_same (set_heap_other w4 p 4 w.heap.size (.slice A5 (listedF n).length c5) hne)).trans z3)))
 refine on_ (i:=6) (z:=fun KK hKK=>?_)
 go_simp
 refine hKK.out _ _ hcb (fun hHeld=>?_)
 clear hKK KK
 try simp only[Act.put,qa_,qb_,qc_]
 refine wpAnyH_done (by kernel_rfl) ?_ _
 refine NoPanic.normal ?_
 have HE:=hd_ (ai_ hkb hfx)
 clear hHeld hcb z0 z1 z2 z3 s0 f0 hpp hxb hfx hkb hne hlv hbd hb3 hb4 hl3 i1 i2 hl16 j1 j2 hl5 x0 x1 x2 d0
 go_wp2_with fail
 first |refine bodyPost_ret (results_none rfl _ _ _) rfl ?_ |refine bodyPost_normal (results_none rfl _ _ _) rfl ?_ |go_end0
 exact⟨rfl,HE.out.1,_,_,_,_,_,_,_,_,_,by rw[←HFIN.out];exact HE.out.2⟩
theorem read3_any (x:Ex)(n:Nd)(n0 n1 n2:Value)(q p:Nat)(c0 c1 c2 c3 c4 c5 c6 c7 c8:Value)(w:World)(hX:XB (fun g=>p<g) w q p x c0 c1 c2 c3 c4 c5 c6 c7 c8)(hqp:q≠p)(hn:NdC (fun g=>p<g) w n n0 n1 n2)(hT:Tabs w):
 Calls Tryz.prog 161 #[.agg #[n0,n1,n2],.pointer (some ⟨q,0,none⟩)] w (ReadPost w q p (readX 3 x n)):=by
 have mixed:Tryz.prog.follows Departure.mixedOrders=true:=by kernel_rfl
 obtain⟨t,A1,l1,k1,K1,m1,u1,rfl,rfl,rfl⟩:=hn.shape
 obtain⟨W0,hW0⟩:=nm_ (w.alloc (.cells #[.int .u8 t,.slice A1 l1 k1,.slice K1 m1 u1] 49))
 have hb0:Below w.heap.size w W0:=by rw[←hW0];exact below_new _ _
 have q0:W0.heap[w.heap.size]? =some (.cells #[.int .u8 t,.slice A1 l1 k1,.slice K1 m1 u1] 49):=by rw[←hW0];exact heap_new_ _ _
 have hz:=hX.size
 obtain⟨x0,x1,x2⟩:=box_nd (br_ _ W0) q0
 obtain⟨d0,_⟩:=(hX.below hb0).cells
 have hent:=enters_of Tryz.func213 (by kernel_rfl) rfl
 have HENT:=hd_ hent
 have HT:=hd_ hT
 have HX:=hd_ (fun W (hW:Below W0.heap.size W0 W)=>ai_ ((hX.below (below_then hb0 hW (lr_ _))).cells.1) (box_nd hW q0))
 have HXB:=hd_ (fun W (hW:Below W0.heap.size W0 W)=>hX.below (below_then hb0 hW (lr_ _)))
 have HB:=hd_ (ai_ hb0 (ai_ hz hqp))
 have HW0:=hd_ hW0
 have HLI:=hd_ (fun W (hW:Below W0.heap.size W0 W)=>listed_any (fun g=>p<g) n _ _ _ W (NdC.below (below_then hb0 hW (lr_ _)) _ _ _ _ hn))
 obtain⟨fin,hfin⟩:=nm_ (readX 3 x n)
 have HFIN:=hd_ (show {x with princs:=(listedF n).map getPZ}=fin from hfin)
 rw[hfin]
 clear hb0 q0 hz hX hn hqp hW0 hfin hent hT
 go_enter Tryz.func161,Tryz.ntmps161
 go_wp2_with fail
 try dsimp only
 (try rw[HW0.out])
 try dsimp only
 refine wp_region_noPanic ?_
 refine wp_region_held_drew (S:=fun wx:World=>wx.cell? ⟨q,0,none⟩=some (.pointer (some ⟨p,0,none⟩))∧wx.cell? ⟨w.heap.size,0,none⟩=some (.int .u8 t)∧wx.cell? ⟨w.heap.size,1,none⟩=some (.slice A1 l1 k1)∧wx.cell? ⟨w.heap.size,2,none⟩=some (.slice K1 m1 u1)) mixed ⟨d0,x0,x1,x2⟩ (fun hHeld=>?_)
 have hbd:=below_drew W0
 obtain⟨wd,hwd⟩:=nm_ (W0.drew)
 rw[hwd] at hHeld hbd⊢
 clear hwd
 refine tk_ (i:=0) (z:=?_)
 refine tk_ (i:=1) (z:=?_)
 refine on_ (i:=2) (z:=fun KK hKK=>?_)
 go_simp
 refine(HLI.out _ hbd).mono ?_
 rintro e w3 ⟨hb3,A3,k3,rfl,i1,i2,hl3⟩
 dsimp only
 have hb3:=below_then hbd hb3 (lr_ _)
 have hl16:(listedF n).length≤1000:=by unfold listedF;rw[List.length_take];omega
 refine hKK.out _ _ (HX.out _ hb3) (fun hHeld=>?_)
 clear hKK KK
 try simp only[Act.put,qa_,qb_,qc_]
 refine on_ (i:=3) (z:=fun KK hKK=>?_)
 go_simp
 refine(orZGP_any w3).mono ?_
 rintro e w4 ⟨q4,rfl,hq4,hq4b,hb4⟩
 dsimp only
 have hl4:=hl3.below hb4
 have hb4:=below_then hb3 hb4 (lr_ _)
 refine hKK.out _ _ (HX.out _ hb4) (fun hHeld=>?_)
 clear hKK KK
 try simp only[Act.put,qa_,qb_,qc_]
 refine on_ (i:=4) (z:=fun KK hKK=>?_)
 go_simp
 refine(eachNPr (fun g=>p<g) getPZ 213 (.pointer (some ⟨q4,0,none⟩)) A3 _ k3 (listedF n) w4 rfl hl4 i1 i2 hl16 HENT.out (fun y _ V hV c0 c1 c2 hold=>by
  obtain⟨_,_,_,e,hnn⟩:=hold
  simp only[List.cons.injEq,and_true] at e
  obtain⟨rfl,rfl,rfl⟩:=e
  exact getPZ_any _ y _ _ _ q4 V hnn ((hV.block q4 (Array.getElem?_eq_some_iff.1 hq4).1).trans hq4) (HT.out.below (below_then (below_then HB.out.1 hb4 (lr_ _)) hV (lr_ _))))).mono ?_
 rintro e w5 ⟨hb5,A5,c5,rfl,j1,j2,hl5⟩
 dsimp only
 have hlv:LsC prE (fun g=>p<g) w5 ((listedF n).map getPZ) (.slice A5 (listedF n).length c5):=⟨A5,c5,by rw[List.length_map],j1,j2,hl5.mono (fun g hg=>by have h1:=hb4.size;have h2:=HB.out.2.1.2;have h3:=HB.out.1.size;omega)⟩
 have hb5:=below_then hb4 hb5 (lr_ _)
 refine hKK.out _ _ (HX.out _ hb5) (fun hHeld=>?_)
 clear hKK KK
 try simp only[Act.put,qa_,qb_,qc_]
 refine tk_ (i:=5) (z:=?_)
 refine tk_ (i:=6) (z:=?_)
 have hxb:=HXB.out _ hb5
 have hpp:=hxb.p
 have f0:=fh_ hpp 5
 have s0:=(ch_ hpp 5).trans rfl
 have hfx:=hxb.put5 HB.out.2.2 hlv
 have hkb:=(KB.of (Nat.le_of_lt HB.out.2.1.2) (below_then HB.out.1 hb5 (lr_ _))).set 5 (.slice A5 (listedF n).length c5)
 obtain⟨z0,z1,z2,z3⟩:=HX.out _ hb5
 have hne:w.heap.size≠p:=by have:=HB.out.2.1.2;omega
 have hcb:=ai_ ((cell_same (set_heap_other w5 p 5 q (.slice A5 (listedF n).length c5) HB.out.2.2)).trans z0) (ai_ ((cell_same (set_heap_other w5 p 5 w.heap.size (.slice A5 (listedF n).length c5) hne)).trans z1) (ai_ ((cell_same (set_heap_other w5 p 5 w.heap.size (.slice A5 (listedF n).length c5) hne)).trans z2) ((cell_same (set_heap_other w5 p 5 w.heap.size (.slice A5 (listedF n).length c5) hne)).trans z3)))
 refine on_ (i:=7) (z:=fun KK hKK=>?_)
 go_simp
 refine hKK.out _ _ hcb (fun hHeld=>?_)
 clear hKK KK
 try simp only[Act.put,qa_,qb_,qc_]
 refine wpAnyH_done (by kernel_rfl) ?_ _
 refine NoPanic.normal ?_
 have HE:=hd_ (ai_ hkb hfx)
 clear hHeld hcb z0 z1 z2 z3 s0 f0 hpp hxb hfx hkb hne hlv hbd hb3 hb4 hb5 hl3 hl4 i1 i2 hl16 j1 j2 hl5 hq4 hq4b x0 x1 x2 d0
 go_wp2_with fail
 first |refine bodyPost_ret (results_none rfl _ _ _) rfl ?_ |refine bodyPost_normal (results_none rfl _ _ _) rfl ?_ |go_end0
 exact⟨rfl,HE.out.1,_,_,_,_,_,_,_,_,_,by rw[←HFIN.out];exact HE.out.2⟩
theorem read1_any (x:Ex)(n:Nd)(n0 n1 n2:Value)(q p:Nat)(c0 c1 c2 c3 c4 c5 c6 c7 c8:Value)(w:World)(hX:XB (fun g=>p<g) w q p x c0 c1 c2 c3 c4 c5 c6 c7 c8)(hqp:q≠p)(hn:NdC (fun g=>p<g) w n n0 n1 n2):
 Calls Tryz.prog 148 #[.agg #[n0,n1,n2],.pointer (some ⟨q,0,none⟩)] w (ReadPost w q p (readX 1 x n)):=by
 have mixed:Tryz.prog.follows Departure.mixedOrders=true:=by kernel_rfl
 obtain⟨t,A1,l1,k1,K1,m1,u1,rfl,rfl,rfl⟩:=hn.shape
 obtain⟨W0,hW0⟩:=nm_ (w.alloc (.cells #[.int .u8 t,.slice A1 l1 k1,.slice K1 m1 u1] 49))
 have hb0:Below w.heap.size w W0:=by rw[←hW0];exact below_new _ _
 have q0:W0.heap[w.heap.size]? =some (.cells #[.int .u8 t,.slice A1 l1 k1,.slice K1 m1 u1] 49):=by rw[←hW0];exact heap_new_ _ _
 have hz:=hX.size
 obtain⟨x0,x1,x2⟩:=box_nd (br_ _ W0) q0
 obtain⟨d0,_⟩:=(hX.below hb0).cells
 obtain⟨g1,g2,g3,g4⟩:=body_size hn
 have HC:=hd_ (fun W (hW:Below W0.heap.size W0 W)=>bits_any A1 l1 k1 n.body W (g3.below (below_then hb0 hW (lr_ _))) g1 g2)
 have hu16:=maskF_u16 (n.body.take 3)
 have hbf:0≤(bitsF n.body).1∧(bitsF n.body).1≤65535:=by
  unfold bitsF
  split
  ·exact hu16
  ·exact⟨by decide,by decide⟩
 obtain⟨vb,hvb⟩:=nm_ ((bitsF n.body).1)
 obtain⟨eb,heb⟩:=nm_ ((bitsF n.body).2)
 have HFIN:=hd_ (show {x with usage:=vb}=readX 1 x n from by rw[←hvb];rfl)
 obtain⟨fin,hfin⟩:=nm_ (readX 1 x n)
 rw[hfin] at HFIN⊢
 rw[hvb,heb] at HC
 rw[hvb] at hbf
 have HVB:=hd_ hbf
 have HX:=hd_ (fun W (hW:Below W0.heap.size W0 W)=>ai_ ((hX.below (below_then hb0 hW (lr_ _))).cells.1) (box_nd hW q0))
 have HXB:=hd_ (fun W (hW:Below W0.heap.size W0 W)=>hX.below (below_then hb0 hW (lr_ _)))
 have HB:=hd_ (ai_ hb0 (ai_ hz hqp))
 have HW0:=hd_ hW0
 clear hb0 q0 hz hX hn hqp hW0 hfin g1 g2 g3 g4 hu16 hbf hvb heb
 go_enter Tryz.func148,Tryz.ntmps148
 go_wp2_with fail
 try dsimp only
 (try rw[HW0.out])
 try dsimp only
 refine wp_region_noPanic ?_
 refine wp_region_held_drew (S:=fun wx:World=>wx.cell? ⟨q,0,none⟩=some (.pointer (some ⟨p,0,none⟩))∧wx.cell? ⟨w.heap.size,0,none⟩=some (.int .u8 t)∧wx.cell? ⟨w.heap.size,1,none⟩=some (.slice A1 l1 k1)∧wx.cell? ⟨w.heap.size,2,none⟩=some (.slice K1 m1 u1)) mixed ⟨d0,x0,x1,x2⟩ (fun hHeld=>?_)
 have hbd:=below_drew W0
 obtain⟨wd,hwd⟩:=nm_ (W0.drew)
 rw[hwd] at hHeld hbd⊢
 clear hwd
 refine tk_ (i:=0) (z:=?_)
 refine tk_ (i:=1) (z:=?_)
 refine tk_ (i:=2) (z:=?_)
 refine on_ (i:=3) (z:=fun KK hKK=>?_)
 go_simp
 refine(HC.out _ hbd).mono ?_
 rintro e w3 ⟨rfl,hb3⟩
 dsimp only
 have hb3:=below_then hbd hb3 (lr_ _)
 refine hKK.out _ _ (HX.out _ hb3) (fun hHeld=>?_)
 clear hKK KK
 try simp only[Act.put,qa_,qb_,qc_]
 refine tk_ (i:=4) (z:=?_)
 refine tk_ (i:=5) (z:=?_)
 refine tk_ (i:=6) (z:=?_)
 refine tk_ (i:=7) (z:=?_)
 refine tk_ (i:=8) (z:=?_)
 have hxb:=HXB.out _ hb3
 have hpp:=hxb.p
 have f0:=fh_ hpp 3
 have s0:=(ch_ hpp 3).trans rfl
 have hfx:=hxb.put3 (v:=.int .u16 vb) HB.out.2.2 rfl HVB.out
 have hkb:=(KB.of (Nat.le_of_lt HB.out.2.1.2) (below_then HB.out.1 hb3 (lr_ _))).set 3 (.int .u16 vb)
 obtain⟨z0,z1,z2,z3⟩:=HX.out _ hb3
 have hne:w.heap.size≠p:=by have:=HB.out.2.1.2;omega
 have hcb:=ai_ ((cell_same (set_heap_other w3 p 3 q (.int .u16 vb) HB.out.2.2)).trans z0) (ai_ ((cell_same (set_heap_other w3 p 3 w.heap.size (.int .u16 vb) hne)).trans z1) (ai_ ((cell_same (set_heap_other w3 p 3 w.heap.size (.int .u16 vb) hne)).trans z2) ((cell_same (set_heap_other w3 p 3 w.heap.size (.int .u16 vb) hne)).trans z3)))
 refine on_ (i:=9) (z:=fun KK hKK=>?_)
 go_simp
 refine hKK.out _ _ hcb (fun hHeld=>?_)
 clear hKK KK
 try simp only[Act.put,qa_,qb_,qc_]
 refine wpAnyH_done (by kernel_rfl) ?_ _
 refine NoPanic.normal ?_
 have HE:=hd_ (ai_ hkb hfx)
 clear hHeld hcb z0 z1 z2 z3 s0 f0 hpp hxb hfx hkb hne hbd hb3 x0 x1 x2 d0
 go_wp2_with fail
 first |refine bodyPost_ret (results_none rfl _ _ _) rfl ?_ |refine bodyPost_normal (results_none rfl _ _ _) rfl ?_ |go_end0
 exact⟨rfl,HE.out.1,_,_,_,_,_,_,_,_,_,by rw[←HFIN.out];exact HE.out.2⟩
end Go.Proofs.YtjanfogifehhmaaGreatDoor.nmc
