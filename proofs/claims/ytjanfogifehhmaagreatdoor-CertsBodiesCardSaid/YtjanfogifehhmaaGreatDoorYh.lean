/- The program's asPut, Get and GetPrinc. The program's GetPrin -/
import Derived.Test.YtjanfogifehhmaaGreatDoorYg
import Derived.Test.YtjanfogifehhmaaGreatDoorYc
import Derived.Deep.RegionHeld3
import Derived.Lib.QuietBelow
import Derived.BigQuiet
set_option maxRecDepth 100000
set_option maxHeartbeats 8000000
set_option linter.unusedVariables false
set_option linter.unusedSimpArgs false
namespace Go.Proofs.YtjanfogifehhmaaGreatDoor.nmc
open Go.RowKit tlvc tlvd ndc txc txm intc intm
def backN (l:List At)(n:Nd):Bool:=match nameF l with |none=>false |some m=>sameN m n
def backP (p:Pr)(n:Nd):Bool:=match princF p with |none=>false |some m=>sameN m n
theorem getN_back (n:Nd):getN n=if backN (toldN n) n=true then some (toldN n) else none:=by
 unfold getN backN
 rw[nameF_of]
 cases h:rightN (toldN n)
 ·simp
 ·simp
theorem getP_back (n:Nd):getP n=if backP (toldP n) n=true then some (toldP n) else none:=by
 unfold getP backP
 rw[princF_of]
 cases h:rightP (toldP n)
 ·simp
 ·simp
theorem asPutN_any (B C:Nat→Prop)(n:Nd)(A:Option Addr)(len cap:Nat)(xs:List At)(c0 c1 c2:Value)(w:World)(hn:NdC B w n c0 c1 c2)(hl:xs.length=len)(hL:Lst atE C w A xs)(hc:len≤cap)(hm:cap≤maxLen)(hT:Tabs w):
 Calls Tryz.prog 115 #[.agg #[c0,c1,c2],.slice A len cap,.func (.func 33) #[] #[]] w fun e w'=>Below w.heap.size w w'∧e=.returned (if backN xs n=true then .tuple #[.slice A len cap,.int .i64 0] else .tuple #[.slice none 0 0,.int .i64 91]):=by
 obtain⟨t,A1,l1,k1,K1,m1,n1,rfl,rfl,rfl⟩:=hn.shape
 have hent:=enters_of Tryz.func33 (by kernel_rfl) rfl
 obtain⟨W0,hW0⟩:=nm_ (w.alloc (.cells #[.int .u8 t,.slice A1 l1 k1,.slice K1 m1 n1] 49))
 have hb0:Below w.heap.size w W0:=by rw[←hW0];exact below_new _ _
 have q0:W0.heap[w.heap.size]? =some (.cells #[.int .u8 t,.slice A1 l1 k1,.slice K1 m1 n1] 49):=by rw[←hW0];exact heap_new_ _ _
 have hput:=put_any C A len cap xs W0 hl (hL.below hb0) hc hm (hT.below hb0)
 have hbk:backN xs n=match nameF xs with |none=>false |some m=>sameN m n:=rfl
 obtain⟨r,hr⟩:=nm_ (nameF xs)
 rw[hr] at hput hbk
 obtain⟨bk,hbk0⟩:=nm_ (backN xs n)
 rw[hbk0] at hbk⊢
 have hal:=fun(m:Nd) (v:Value) (W:World) (hW:Below w.heap.size w W) (hv:NdV (fun _=>True) W m v)=>alike_of (szN m) m n (lr_ _) v (.agg #[.int .u8 t,.slice A1 l1 k1,.slice K1 m1 n1]) W hv ⟨_,_,_,rfl,NdC.below hW _ _ _ _ hn⟩
 have HP:=hd_ hput
 have HA:=hd_ hal
 have HB:=hd_ (ai_ hb0 q0)
 have HK:=hd_ hbk
 clear hput hal hb0 q0 hbk hr hbk0 hn hL hl hc hm hT
 go_enter Tryz.func115,Tryz.ntmps115
 go_wp2_with fail
 refine HP.out.mono ?_
 rintro e w1 hpost
 cases r with
 |none=>
  obtain⟨hb1,hpost⟩:=hpost
  have hpost:e=_:=hpost
  subst hpost
  have hK:bk=false:=HK.out
  subst hK
  have HF:=hd_ (below_then (below_then HB.out.1 hb1 (lr_ _)) (below_new w1 (.cells #[.int .u8 0,.slice none 0 0,.slice none 0 0] 49)) (lr_ _))
  clear hb1 HP HA HB HK
  go_wp2
  go_ret2
  exact⟨HF.out,rfl⟩
 |some m=>
  obtain⟨hb1,t2,A2,l2,k2,K2,m2,n2,rfl,hn2⟩:=hpost
  obtain⟨W2,hW2⟩:=nm_ (w1.alloc (.cells #[.int .u8 t2,.slice A2 l2 k2,.slice K2 m2 n2] 49))
  have hb12:Below w1.heap.size w1 W2:=by rw[←hW2];exact below_new _ _
  have p2:W2.heap[w1.heap.size]? =some (.cells #[.int .u8 t2,.slice A2 l2 k2,.slice K2 m2 n2] 49):=by rw[←hW2];exact heap_new_ _ _
  have hb2:=below_then hb1 hb12 (lr_ _)
  have hbw:=below_then HB.out.1 hb2 (lr_ _)
  obtain⟨x0,x1,x2⟩:=box_nd hb2 HB.out.2
  obtain⟨y0,y1,y2⟩:=box_nd (br_ _ W2) p2
  have hcall:=HA.out m _ W2 hbw ⟨_,_,_,rfl,NdC.mono (fun _ _=>trivial) _ _ _ _ (NdC.below hb12 _ _ _ _ hn2)⟩
  have hK:bk=sameN m n:=HK.out
  rw[←hK] at hcall
  have HC:=hd_ hcall
  have HW:=hd_ hbw
  clear hcall hbw hb1 hb2 hb12 p2 hn2 hK HP HA HB HK
  go_wp2_with fail
  refine HC.out.mono ?_
  rintro e w3 ⟨rfl,hb3⟩
  have HF:=hd_ (below_then HW.out hb3 (lr_ _))
  clear hb3 HC HW x0 x1 x2 y0 y1 y2
  cases bk
  ·go_wp2
   go_ret2
   exact⟨HF.out,rfl⟩
  ·go_wp2
   go_ret2
   exact⟨HF.out,rfl⟩
def GetPost (w:World)(r:Option (List At))(e:Ending)(w':World):Prop:=
 Below w.heap.size w w'∧match r with
  |none=>e=.returned (.tuple #[.slice none 0 0,.int .i64 91])
  |some l=>∃A c,e=.returned (.tuple #[.slice A l.length c,.int .i64 0])∧l.length≤c∧c≤maxLen∧Lst atE (fun _=>True) w' A l
theorem asPutP_any (B C:Nat→Prop)(n:Nd)(p:Pr)(d0 d1:Value)(c0 c1 c2:Value)(w:World)(hn:NdC B w n c0 c1 c2)(hp:PrC C w p d0 d1)(hT:Tabs w):
 Calls Tryz.prog 216 #[.agg #[c0,c1,c2],.agg #[d0,d1],.func (.func 160) #[] #[]] w fun e w'=>Below w.heap.size w w'∧e=.returned (if backP p n=true then .tuple #[.agg #[d0,d1],.int .i64 0] else .tuple #[.agg #[.string ⟨#[]⟩,.slice none 0 0],.int .i64 91]):=by
 have hpc:=hp
 obtain⟨A,cap,rfl,rfl,_⟩:=hp
 obtain⟨len,hlen⟩:=nm_ (p.names.length)
 obtain⟨s,hs0⟩:=nm_ (p.realm)
 rw[hlen,hs0] at hpc⊢
 obtain⟨t,A1,l1,k1,K1,m1,n1,rfl,rfl,rfl⟩:=hn.shape
 have hent:=enters_of Tryz.func160 (by kernel_rfl) rfl
 obtain⟨W0,hW0⟩:=nm_ (((w.alloc (.cells #[.int .u8 t,.slice A1 l1 k1,.slice K1 m1 n1] 49)).alloc (.cells #[.string s,.slice A len cap] 107)).alloc (.cells #[.string ⟨#[]⟩,.slice none 0 0] 107))
 have hb0:Below w.heap.size w W0:=by rw[←hW0];exact((below_new _ _).alloc (by simp) _).alloc (by simp;omega) _
 have hz0:W0.heap.size=w.heap.size+3:=by rw[←hW0];simp
 have q0:W0.heap[w.heap.size]? =some (.cells #[.int .u8 t,.slice A1 l1 k1,.slice K1 m1 n1] 49):=by rw[←hW0,heap_old_ _ _ (by simp;omega),heap_old_ _ _ (by simp)];exact heap_new_ _ _
 have q1:W0.heap[w.heap.size+1]? =some (.cells #[.string s,.slice A len cap] 107):=by rw[←hW0,heap_old_ _ _ (by simp)];exact heap_is (by simp)
 have q2:W0.heap[w.heap.size+2]? =some (.cells #[.string ⟨#[]⟩,.slice none 0 0] 107):=by rw[←hW0];exact heap_is (by simp)
 have b0:W0.cell? ⟨w.heap.size+1,0,none⟩=some (.string s):=(ch_ q1 _).trans rfl
 have b1:W0.cell? ⟨w.heap.size+1,1,none⟩=some (.slice A len cap):=(ch_ q1 _).trans rfl
 have hput:=putPrinc_any C p _ _ W0 (hpc.below hb0) (hT.below hb0)
 have hbk:backP p n=match princF p with |none=>false |some m=>sameN m n:=rfl
 obtain⟨r,hr⟩:=nm_ (princF p)
 rw[hr] at hput hbk
 obtain⟨bk,hbk0⟩:=nm_ (backP p n)
 rw[hbk0] at hbk⊢
 have hal:=fun(m:Nd) (v:Value) (W:World) (hW:Below w.heap.size w W) (hv:NdV (fun _=>True) W m v)=>alike_of (szN m) m n (lr_ _) v (.agg #[.int .u8 t,.slice A1 l1 k1,.slice K1 m1 n1]) W hv ⟨_,_,_,rfl,NdC.below hW _ _ _ _ hn⟩
 have HP:=hd_ hput
 have HA:=hd_ hal
 have HB:=hd_ (ai_ hb0 (ai_ q0 (ai_ q1 (ai_ q2 hz0))))
 have HK:=hd_ hbk
 have hend: ∀(W:World) (u0 u1:Value),Below W0.heap.size W0 W→(W.cell? ⟨w.heap.size+1,0,none⟩=some (.string s)∧W.cell? ⟨w.heap.size+1,1,none⟩=some (.slice A len cap))∧(W.frozen? ⟨w.heap.size+2,0,none⟩=false∧W.frozen? ⟨w.heap.size+2,1,none⟩=false)∧(W.cell? ⟨w.heap.size+2,0,none⟩=some (.string ⟨#[]⟩)∧W.cell? ⟨w.heap.size+2,1,none⟩=some (.slice none 0 0))∧
  ((W.setCell ⟨w.heap.size+2,0,none⟩ u0).setCell ⟨w.heap.size+2,1,none⟩ u1).cell? ⟨w.heap.size+2,0,none⟩=some u0∧((W.setCell ⟨w.heap.size+2,0,none⟩ u0).setCell ⟨w.heap.size+2,1,none⟩ u1).cell? ⟨w.heap.size+2,1,none⟩=some u1∧Below w.heap.size w ((W.setCell ⟨w.heap.size+2,0,none⟩ u0).setCell ⟨w.heap.size+2,1,none⟩ u1):=fun W u0 u1 hW=>by
  have h2:=(hW.block _ (by omega)).trans q2
  have hset:=set_heap _ _ 1 u1 _ _ _ (set_heap _ _ 0 u0 _ _ _ h2)
  exact⟨⟨cell_on hW b0,cell_on hW b1⟩,⟨fh_ h2 0,fh_ h2 1⟩,⟨(ch_ h2 0).trans rfl,(ch_ h2 1).trans rfl⟩,(ch_ hset 0).trans rfl,(ch_ hset 1).trans rfl,
   ((below_then hb0 hW (lr_ _)).setCell (p:=⟨w.heap.size+2,0,none⟩) (by show w.heap.size≤w.heap.size+2;omega) _).setCell (p:=⟨w.heap.size+2,1,none⟩) (by show w.heap.size≤w.heap.size+2;omega) _⟩
 have HEND:=hd_ hend
 clear hput hal hb0 q0 q1 q2 hz0 hbk hr hbk0 hn hpc hT hend hlen hs0
 go_enter Tryz.func216,Tryz.ntmps216
 go_wp2_with fail
 refine HP.out.mono ?_
 rintro e w1 hpost
 cases r with
 |none=>
  obtain⟨hb1,hpost⟩:=hpost
  have hpost:e=_:=hpost
  subst hpost
  have hK:bk=false:=HK.out
  subst hK
  obtain⟨W2,hW2⟩:=nm_ ((w1.alloc (.cells #[.int .u8 0,.slice none 0 0,.slice none 0 0] 49)).alloc (.cells #[.string ⟨#[]⟩,.slice none 0 0] 107))
  have hb2:Below w1.heap.size w1 W2:=by rw[←hW2];exact(below_new _ _).alloc (by simp) _
  have p2:W2.heap[w1.heap.size+1]? =some (.cells #[.string ⟨#[]⟩,.slice none 0 0] 107):=by rw[←hW2];exact heap_is (by simp)
  have y0:=(ch_ p2 0).trans rfl
  have y1:=(ch_ p2 1).trans rfl
  obtain⟨_,⟨f0,f1⟩,⟨s0,s1⟩,r0,r1,hB⟩:=HEND.out W2 (.string ⟨#[]⟩) (.slice none 0 0) (below_then hb1 hb2 (lr_ _))
  have HF:=hd_ hB
  clear hb1 hb2 p2 hB HP HA HB HK HEND
  go_wp2_with fail
  refine bodyPost_ret (v:=.tuple #[.agg #[.string ⟨#[]⟩,.slice none 0 0],.int .i64 91]) ?_ rfl ⟨HF.out,rfl⟩
  simp[results,Tryz.results216,go_sem,r0,r1]
 |some m=>
  obtain⟨hb1,t2,A2,l2,k2,K2,m2,n2,rfl,hn2⟩:=hpost
  obtain⟨W2,hW2⟩:=nm_ (w1.alloc (.cells #[.int .u8 t2,.slice A2 l2 k2,.slice K2 m2 n2] 49))
  have hb12:Below w1.heap.size w1 W2:=by rw[←hW2];exact below_new _ _
  have p2:W2.heap[w1.heap.size]? =some (.cells #[.int .u8 t2,.slice A2 l2 k2,.slice K2 m2 n2] 49):=by rw[←hW2];exact heap_new_ _ _
  have hb2:=below_then hb1 hb12 (lr_ _)
  have hbw:=below_then HB.out.1 hb2 (lr_ _)
  obtain⟨x0,x1,x2⟩:=box_nd hb2 HB.out.2.1
  obtain⟨y0,y1,y2⟩:=box_nd (br_ _ W2) p2
  have hcall:=HA.out m _ W2 hbw ⟨_,_,_,rfl,NdC.mono (fun _ _=>trivial) _ _ _ _ (NdC.below hb12 _ _ _ _ hn2)⟩
  have hK:bk=sameN m n:=HK.out
  rw[←hK] at hcall
  have HC:=hd_ hcall
  have HW:=hd_ hb2
  clear hcall hbw hb1 hb2 hb12 p2 hn2 hK HP HA HB HK b0 b1
  go_wp2_with fail
  refine HC.out.mono ?_
  rintro e w3 ⟨rfl,hb3⟩
  have hb3:=below_then HW.out hb3 (lr_ _)
  clear HC HW x0 x1 x2 y0 y1 y2
  cases bk
  ·obtain⟨W4,hW4⟩:=nm_ (w3.alloc (.cells #[.string ⟨#[]⟩,.slice none 0 0] 107))
   have hb4:Below w3.heap.size w3 W4:=by rw[←hW4];exact below_new _ _
   have p4:W4.heap[w3.heap.size]? =some (.cells #[.string ⟨#[]⟩,.slice none 0 0] 107):=by rw[←hW4];exact heap_new_ _ _
   have y0:=(ch_ p4 0).trans rfl
   have y1:=(ch_ p4 1).trans rfl
   obtain⟨_,⟨f0,f1⟩,⟨s0,s1⟩,r0,r1,hB⟩:=HEND.out W4 (.string ⟨#[]⟩) (.slice none 0 0) (below_then hb3 hb4 (lr_ _))
   have HF:=hd_ hB
   clear hb3 hb4 p4 hB HEND
   go_wp2_with fail
   refine bodyPost_ret (v:=.tuple #[.agg #[.string ⟨#[]⟩,.slice none 0 0],.int .i64 91]) ?_ rfl ⟨HF.out,rfl⟩
   simp[results,Tryz.results216,go_sem,r0,r1]
  ·obtain⟨⟨b0,b1⟩,⟨f0,f1⟩,⟨s0,s1⟩,r0,r1,hB⟩:=HEND.out w3 (.string s) (.slice A len cap) hb3
   have HF:=hd_ hB
   clear hb3 hB HEND
   go_wp2_with fail
   refine bodyPost_ret (v:=.tuple #[.agg #[.string s,.slice A len cap],.int .i64 0]) ?_ rfl ⟨HF.out,rfl⟩
   simp[results,Tryz.results216,go_sem,r0,r1]
end Go.Proofs.YtjanfogifehhmaaGreatDoor.nmc
namespace Go.Proofs.YtjanfogifehhmaaGreatDoor.nmc
open Go.RowKit tlvc tlvd ndc txc txm intc intm
def GetPPost (w:World)(r:Option Pr)(e:Ending)(w':World):Prop:=
 Below w.heap.size w w'∧match r with
  |none=>e=.returned (.tuple #[.agg #[.string ⟨#[]⟩,.slice none 0 0],.int .i64 91])
  |some p=>∃s A l c,e=.returned (.tuple #[.agg #[.string s,.slice A l c],.int .i64 0])∧PrC (fun _=>True) w' p (.string s) (.slice A l c)
theorem PrC.on {B B':Nat→Prop}{w w':World}{p:Pr}{c0 c1:Value}(h:PrC B w p c0 c1)(hs:w.heap.size≤w'.heap.size)(hk: ∀g,B g→g<w.heap.size→w'.heap[g]? =w.heap[g]?)(hB: ∀g,B g→g<w.heap.size→B' g):PrC B' w' p c0 c1:=by
 obtain⟨A,c,h0,h1,h2,h3,h4,h5⟩:=h
 exact⟨A,c,h0,h1,h2,h3,h4.on hs hk hB,h5⟩
theorem res2 {w W:World}{b:Nat}{x0 x1 y0 y1:Value}{T:TypeId}{fr:Nat × Nat}(hb:w.heap.size≤b)(hB:Below w.heap.size w W)(hres:W.heap[b]? =some (.cells #[x0,x1] T fr)):
 ((W.setCell ⟨b,0,none⟩ y0).setCell ⟨b,1,none⟩ y1).cell? ⟨b,0,none⟩=some y0∧((W.setCell ⟨b,0,none⟩ y0).setCell ⟨b,1,none⟩ y1).cell? ⟨b,1,none⟩=some y1∧Below w.heap.size w ((W.setCell ⟨b,0,none⟩ y0).setCell ⟨b,1,none⟩ y1)∧(∀g,g≠b→((W.setCell ⟨b,0,none⟩ y0).setCell ⟨b,1,none⟩ y1).heap[g]? =W.heap[g]?)∧((W.setCell ⟨b,0,none⟩ y0).setCell ⟨b,1,none⟩ y1).heap.size=W.heap.size:=by
 have hset:=set_heap _ _ 1 y1 _ _ _ (set_heap _ _ 0 y0 _ _ _ hres)
 exact⟨(ch_ hset 0).trans rfl,(ch_ hset 1).trans rfl,(hB.setCell (p:=⟨b,0,none⟩) hb _).setCell (p:=⟨b,1,none⟩) hb _,fun g hg=>by rw[set_heap_other _ _ _ _ _ hg,set_heap_other _ _ _ _ _ hg],by rw[set_size,set_size]⟩
end Go.Proofs.YtjanfogifehhmaaGreatDoor.nmc
namespace Go.Proofs.YtjanfogifehhmaaGreatDoor.nmc
open Go.RowKit tlvc tlvd ndc txc txm intc intm
theorem ralikeP_self (B C:Nat→Prop)(p:Pr)(c0 c1 d0 d1:Value)(w:World)(hp:PrC B w p c0 c1)(hq:PrC C w p d0 d1):
 Calls Tryz.prog 67 #[.agg #[c0,c1],.agg #[d0,d1]] w fun e w'=>e=.returned (.bool true)∧Below w.heap.size w w':=by
 obtain⟨A,c,rfl,rfl,hc,hm,hL,hs⟩:=hp
 obtain⟨A',d,rfl,rfl,hc2,hm2,hL2,_⟩:=hq
 have h9:c≤9223372036854775807:=by unfold maxLen at hm;omega
 have h92:d≤9223372036854775807:=by unfold maxLen at hm2;omega
 obtain⟨n,hlen⟩:=nm_ (p.names.length)
 obtain⟨s,hs0⟩:=nm_ (p.realm)
 obtain⟨xs,hxs⟩:=nm_ (p.names)
 rw[hxs] at hlen hL hL2 hc hc2⊢
 rw[hs0] at hs⊢
 rw[hlen] at hc hc2⊢
 obtain⟨W0,hW0⟩:=nm_ ((w.alloc (.cells #[.string s,.slice A n c] 107)).alloc (.cells #[.string s,.slice A' n d] 107))
 have hb0:Below w.heap.size w W0:=by rw[←hW0];exact(below_new _ _).alloc (by simp) _
 have p0:W0.heap[w.heap.size+1]? =some (.cells #[.string s,.slice A' n d] 107):=by rw[←hW0];exact heap_is (by simp)
 have q0:W0.heap[w.heap.size]? =some (.cells #[.string s,.slice A n c] 107):=by rw[←hW0,heap_old_ _ _ (by simp)];exact heap_new_ _ _
 have x0:W0.cell? ⟨w.heap.size,0,none⟩=some (.string s):=(ch_ q0 _).trans rfl
 have x1:W0.cell? ⟨w.heap.size,1,none⟩=some (.slice A n c):=(ch_ q0 _).trans rfl
 have y0:W0.cell? ⟨w.heap.size+1,0,none⟩=some (.string s):=(ch_ p0 _).trans rfl
 have y1:W0.cell? ⟨w.heap.size+1,1,none⟩=some (.slice A' n d):=(ch_ p0 _).trans rfl
 have HX:=hd_ (fun W (hW:Below W0.heap.size W0 W)=>ai_ (cell_on hW x1) (cell_on hW y1))
 have HL:=hd_ (ai_ hlen (ai_ hL (ai_ hL2 hb0)))
 clear hlen hL hL2 hb0 p0 q0 hs0 hxs hm hm2 hs
 go_enter Tryz.func67,Tryz.ntmps67
 go_wp2_with fail
 go_loopg [5] (n+1) (fun gk s5 wx=>∃(i:Nat),s5=.int .i64 i∧i≤n∧n - i<gk∧Hid (Below W0.heap.size W0 wx))
 case atStart=>exact⟨0,rfl,by omega,by omega,hd_ (br_ _ _)⟩
 case round=>
  obtain⟨i,rfl,hi,hgk,HI⟩:=hrel
  clear x0 y0 x1 y1
  obtain⟨x1,y1⟩:=HX.out wr HI.out
  by_cases hlt:i<n
  ·have hltz:(i:Int)< (n:Int):=by omega
   obtain⟨gk',rfl⟩: ∃g',gk=g'+1:=⟨gk - 1,by omega⟩
   have HN:=hd_ (ai_ (show i+1≤n from hlt) (show n - (i+1)<gk' by omega))
   have hix:i<xs.length:=by rw[HL.out.1];exact hlt
   have hbw:=below_then HL.out.2.2.2 HI.out (lr_ _)
   obtain⟨g,off,cs,rfl,hg,hcell,rfl,hx5⟩:=(HL.out.2.1.below hbw).at i hix
   obtain⟨g',off',cs',rfl,hg',hcell',rfl,_⟩:=(HL.out.2.2.1.below hbw).at i hix
   have e0:=hcell 0 _ rfl
   have e1:=hcell' 0 _ rfl
   rw[show stE.sz=1 from rfl] at e0 e1
   rw[Nat.add_zero,Nat.mul_one] at e0 e1
   obtain⟨tx,htx⟩:=nm_ (xs[i])
   rw[htx] at e0 e1
   have g0:=fun(d:Nat) (os:Array Obj)=>cell_on (below_regrown wr d os) x1
   have g1:=fun(d:Nat) (os:Array Obj)=>cell_on (below_regrown wr d os) y1
   have g2:=fun(d:Nat) (os:Array Obj)=>cell_on (below_regrown wr d os) e0
   have g3:=fun(d:Nat) (os:Array Obj)=>cell_on (below_regrown wr d os) e1
   have i1:(0:Int)≤(i:Int):=by omega
   clear e0 e1 htx hx5 hcell hcell' hgk hbw
   go_wp2_with fail
   clear x1 y1
   try dsimp only
   refine wp_region_quiet_below (by kernel_rfl) (by kernel_rfl) ?_
   repeat (go_big_quiet_step (fail))
   refine wpQuiet_nil ?_
   intro _ hw'
   obtain⟨⟨nq,osq⟩,hw''⟩:=hw'
   subst hw''
   have HF:=hd_ (below_then HI.out (below_regrown wr nq osq) (lr_ _))
   clear g0 g1 g2 g3
   go_wp2
   go_roundg gk'
   case measure=>omega
   case rel=>exact⟨i+1,by go_num,HN.out.1,HN.out.2,HF⟩
  ·obtain rfl:n=i:=by omega
   have hltz: ¬(n:Int)< (n:Int):=by omega
   clear hgk
   go_wp2
   go_ret
   exact⟨rfl,below_then HL.out.2.2.2 HI.out (lr_ _)⟩
theorem ralike_self (B C:Nat→Prop)(A A':Option Addr)(n c d:Nat)(xs:List At)(w:World)(hl:xs.length=n)(hL:Lst atE B w A xs)(hL2:Lst atE C w A' xs)(hc:n≤c)(hm:c≤maxLen)(hc2:n≤d)(hm2:d≤maxLen):
 Calls Tryz.prog 31 #[.slice A n c,.slice A' n d] w fun e w'=>e=.returned (.bool true)∧Below w.heap.size w w':=by
 have h:=ralike_any B C A A' n c n d xs xs w hl hl hL hL2 hc hm hc2 hm2
 rwa[eqW_list.2 rfl] at h
end Go.Proofs.YtjanfogifehhmaaGreatDoor.nmc
namespace Go.Proofs.YtjanfogifehhmaaGreatDoor.nmc
open Go.RowKit tlvc tlvd ndc txc txm intc intm
theorem NPost0.anyS {S:Nat→Prop}{w:World}{r:Option Nd}{e:Ending}{w':World}(h:NPost0 S w r e w'):Below w.heap.size w w'∧∃t A la ca K lk ck er,e=.returned (.tuple #[.agg #[.int .u8 t,.slice A la ca,.slice K lk ck],.int .i64 er])∧er=codeN r∧NdC S w' (r.getD zn) (.int .u8 t) (.slice A la ca) (.slice K lk ck):=by
 obtain⟨hb,h⟩:=h
 refine⟨hb,?_⟩
 cases r with
 |none=>exact⟨_,_,_,_,_,_,_,_,h,rfl,ndC_leaf (by omega) (lr_ _) (Nat.zero_le _) (Bys.nil_ _ _) (fun h=>absurd h (by omega))⟩
 |some n=>
  obtain⟨t,A,la,ca,K,lk,ck,e,hn⟩:=h
  exact⟨t,A,la,ca,K,lk,ck,_,e,rfl,hn⟩
def codeL (r:Option (List At)):Int:=if r.isSome=true then 0 else 91
def codeP (r:Option Pr):Int:=if r.isSome=true then 0 else 91
theorem GetPost.any {w:World}{r:Option (List At)}{e:Ending}{w':World}(h:GetPost w r e w'):Below w.heap.size w w'∧∃A l c er,e=.returned (.tuple #[.slice A l c,.int .i64 er])∧er=codeL r∧(r.getD []).length=l∧l≤c∧c≤maxLen∧Lst atE (fun _=>True) w' A (r.getD []):=by
 obtain⟨hb,h⟩:=h
 refine⟨hb,?_⟩
 cases r with
 |none=>exact⟨_,_,_,_,h,rfl,rfl,lr_ _,Nat.zero_le _,Lst.nil _ _ _⟩
 |some n=>
  obtain⟨A,c,e,h1,h2,h3⟩:=h
  exact⟨A,_,c,_,e,rfl,rfl,h1,h2,h3⟩
theorem GetPPost.any {w:World}{r:Option Pr}{e:Ending}{w':World}(h:GetPPost w r e w'):Below w.heap.size w w'∧∃s A l c er,e=.returned (.tuple #[.agg #[.string s,.slice A l c],.int .i64 er])∧er=codeP r∧PrC (fun _=>True) w' (r.getD ⟨⟨#[]⟩,[]⟩) (.string s) (.slice A l c):=by
 obtain⟨hb,h⟩:=h
 refine⟨hb,?_⟩
 cases r with
 |none=>exact⟨_,_,_,_,_,h,rfl,none,0,rfl,rfl,lr_ _,Nat.zero_le _,Lst.nil _ _ _,Nat.zero_le _⟩
 |some p=>
  obtain⟨s,A,l,c,e,h1⟩:=h
  exact⟨s,A,l,c,_,e,rfl,h1⟩
end Go.Proofs.YtjanfogifehhmaaGreatDoor.nmc
