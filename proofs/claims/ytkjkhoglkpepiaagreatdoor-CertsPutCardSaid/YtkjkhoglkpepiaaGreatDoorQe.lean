/- Certificates' bytes: the program's Body and Put. -/
import Derived.Test.YtkjkhoglkpepiaaGreatDoorQd
set_option maxRecDepth 100000
set_option maxHeartbeats 1600000
set_option linter.unusedVariables false
set_option linter.unusedSimpArgs false
namespace Go.Proofs.YtkjkhoglkpepiaaGreatDoor.nmc
open Go.RowKit tlvc tlvd ndc txc txm intc intm vtc
def bodyW (c:Ce):WR:=if rightC c=true then writeF (bodyC c) 0 else .no 111
def putC (c:Ce):WR:=if rightC c=true then writeF (nodeC c) 0 else .no 111
theorem prPost_re {w W w':World}{r:WR}{e:Ending}(hb:Below w.heap.size w W)(h:PrPost W r e w'):PrPost w r e w':=by
 obtain⟨h1,h2⟩:=h
 refine⟨below_then hb h1 (lr_ _),?_⟩
 cases r with
 |no er=>exact h2
 |ok b=>obtain⟨A,c,e,h3,h4,h5⟩:=h2;exact⟨A,c,e,h3,h4,fun g off sp h=>Nat.le_trans hb.size (h5 g off sp h)⟩
theorem body_any (B:Nat→Prop)(c:Ce)(c0 c1 c2 c3 c4 c5 x0 x1 x2 x3 x4 x5 x6 x7 x8 c6:Value)(w:World)(hx:CeC B w c c0 c1 c2 c3 c4 c5 x0 x1 x2 x3 x4 x5 x6 x7 x8 c6)(hT:Tabs w):
 Calls Tryz.prog 7 #[.agg #[c0,c1,c2,c3,c4,c5,x0,x1,x2,x3,x4,x5,x6,x7,x8,c6]] w (PrPost w (bodyW c)):=by
 obtain⟨W0,hW0⟩:=nm_ (w.alloc (.cells #[c0,c1,c2,c3,c4,c5,x0,x1,x2,x3,x4,x5,x6,x7,x8,c6] 32))
 have hb0:Below w.heap.size w W0:=by rw[←hW0];exact below_new _ _
 have p0:W0.heap[w.heap.size]? =some (.cells #[c0,c1,c2,c3,c4,c5,x0,x1,x2,x3,x4,x5,x6,x7,x8,c6] 32):=by rw[←hW0];exact heap_new_ _ _
 have HC:=hd_ (nodesOf_any _ c _ _ _ _ _ _ _ _ _ _ _ _ _ _ _ _ W0 (hx.below hb0) (hT.below hb0))
 obtain⟨a0,A1,l1,i1,a2,a3,A4,l4,i4,a5,q0,q1,q2,q3,B4,m4,j4,B5,m5,j5,B6,m6,j6,B7,m7,j7,B8,m8,j8,a7,rfl,rfl,rfl,rfl,rfl,rfl,rfl,rfl,rfl,rfl,rfl,rfl,rfl,rfl,rfl,rfl⟩:=ceC_shape hx
 obtain⟨⟨e0,e1,e2,e3,e4,e5⟩,⟨y0,y1,y2,y3,y4,y5,y6,y7,y8⟩,e7⟩:=box16 p0
 have hc1:nodesC c=if rightC c=true then some (bodyC c,hNd c.sig) else none:=rfl
 have hc2:bodyW c=if rightC c=true then writeF (bodyC c) 0 else .no 111:=rfl
 obtain⟨R,hR⟩:=nm_ (rightC c)
 rw[hR] at hc1 hc2
 obtain⟨RN,hRN⟩:=nm_ (nodesC c)
 obtain⟨RES,hRES⟩:=nm_ (bodyW c)
 rw[hRN] at HC hc1
 rw[hRES] at hc2⊢
 have HR:=hd_ (ai_ hc1 hc2)
 have HB:=hd_ hb0
 have HT:=hd_ (hT.below hb0)
 clear hb0 p0 hx hT hR hRN hRES hc1 hc2
 go_enter Tryz.func7,Tryz.ntmps7
 go_wp2_with fail
 clear e0 e1 e2 e3 e4 e5 e7 y0 y1 y2 y3 y4 y5 y6 y7 y8
 refine HC.out.mono ?_
 rintro e w1 ⟨hb1,hpost⟩
 cases R
 ·obtain⟨h1,h2⟩:=HR.out
  rw[if_neg (by decide)] at h1 h2
  subst h1 h2
  obtain rfl:=hpost
  have HE:=hd_ (below_then HB.out (((below_then hb1 (below_new w1 (.cells #[.int .u8 0,.slice none 0 0,.slice none 0 0] 43)) (lr_ _))).alloc (by have:=hb1.size;simp;omega) (.cells #[.int .u8 0,.slice none 0 0,.slice none 0 0] 43)) (lr_ _))
  clear hb1 HC HB HT
  go_wp2_with fail
  go_ret2
  exact⟨HE.out,rfl⟩
 ·obtain⟨h1,h2⟩:=HR.out
  rw[if_pos rfl] at h1 h2
  subst h1
  obtain⟨t1,D1,d1,g1,K1,k1,u1,t2,D2,d2,g2,K2,k2,u2,rfl,n1,n2⟩:=hpost
  obtain⟨W2,hW2⟩:=nm_ ((w1.alloc (.cells #[.int .u8 t1,.slice D1 d1 g1,.slice K1 k1 u1] 43)).alloc (.cells #[.int .u8 t2,.slice D2 d2 g2,.slice K2 k2 u2] 43))
  have hb2:Below w1.heap.size w1 W2:=by rw[←hW2];exact(below_new _ _).alloc (by simp) _
  have v1:W2.heap[w1.heap.size]? =some (.cells #[.int .u8 t1,.slice D1 d1 g1,.slice K1 k1 u1] 43):=by rw[←hW2,heap_old_ _ _ (by simp)];exact heap_new_ _ _
  have v2:W2.heap[w1.heap.size+1]? =some (.cells #[.int .u8 t2,.slice D2 d2 g2,.slice K2 k2 u2] 43):=by rw[←hW2];exact heap_is (by simp)
  obtain⟨_,s0,s1,s2⟩:=st3 v1
  obtain⟨_,s3,s4,s5⟩:=st3 v2
  have hbw:=below_then hb1 hb2 (lr_ _)
  have hn1:=NdC.below hb2 _ _ _ _ n1
  have hn2:=NdC.below hb2 _ _ _ _ n2
  obtain⟨nb,hnb⟩:=nm_ (bodyC c)
  rw[show(bodyC c,hNd c.sig).1=bodyC c from rfl,hnb] at hn1
  rw[show(bodyC c,hNd c.sig).2=hNd c.sig from rfl] at hn2
  rw[hnb] at h2
  have HP:=hd_ (print_any nb _ _ W2 ⟨_,_,_,rfl,hn1⟩ (HT.out.below hbw))
  obtain⟨r,hr⟩:=nm_ (writeF nb 0)
  rw[hr] at HP h2
  subst h2
  have HE:=hd_ (below_then HB.out hbw (lr_ _))
  clear hb1 hb2 hbw v1 v2 hn1 hn2 n1 n2 HC hnb HT HB hr
  go_wp2_with fail
  refine HP.out.mono ?_
  rintro e w3 hp
  have hp:=prPost_re HE.out hp
  clear s0 s1 s2 s3 s4 s5
  cases RES with
  |no er=>
   obtain⟨h1,rfl⟩:=hp
   go_wp2_with fail
   go_ret2
   exact⟨h1,rfl⟩
  |ok b=>
   obtain⟨h1,A,cc,rfl,h2,h3,h4⟩:=hp
   have HQ:=hd_ (ai_ h1 (ai_ h2 (ai_ h3 h4)))
   clear h1 h2 h3 h4
   obtain⟨len,hlen⟩:=nm_ b.length
   rw[hlen] at HQ
   have HL:=hd_ hlen
   clear hlen
   go_wp2_with fail
   go_ret2
   exact⟨HQ.out.1,A,cc,by rw[HL.out];rfl,by rw[HL.out];exact HQ.out.2.1,by rw[HL.out];exact HQ.out.2.2.1,HQ.out.2.2.2⟩
theorem put_cert (B:Nat→Prop)(c:Ce)(c0 c1 c2 c3 c4 c5 x0 x1 x2 x3 x4 x5 x6 x7 x8 c6:Value)(w:World)(hx:CeC B w c c0 c1 c2 c3 c4 c5 x0 x1 x2 x3 x4 x5 x6 x7 x8 c6)(hT:Tabs w):
 Calls Tryz.prog 5 #[.agg #[c0,c1,c2,c3,c4,c5,x0,x1,x2,x3,x4,x5,x6,x7,x8,c6]] w (PrPost w (putC c)):=by
 obtain⟨W0,hW0⟩:=nm_ (w.alloc (.cells #[c0,c1,c2,c3,c4,c5,x0,x1,x2,x3,x4,x5,x6,x7,x8,c6] 32))
 have hb0:Below w.heap.size w W0:=by rw[←hW0];exact below_new _ _
 have p0:W0.heap[w.heap.size]? =some (.cells #[c0,c1,c2,c3,c4,c5,x0,x1,x2,x3,x4,x5,x6,x7,x8,c6] 32):=by rw[←hW0];exact heap_new_ _ _
 have HC:=hd_ (nodesOf_any _ c _ _ _ _ _ _ _ _ _ _ _ _ _ _ _ _ W0 (hx.below hb0) (hT.below hb0))
 obtain⟨a0,A1,l1,i1,a2,a3,A4,l4,i4,a5,q0,q1,q2,q3,B4,m4,j4,B5,m5,j5,B6,m6,j6,B7,m7,j7,B8,m8,j8,a7,rfl,rfl,rfl,rfl,rfl,rfl,rfl,rfl,rfl,rfl,rfl,rfl,rfl,rfl,rfl,rfl⟩:=ceC_shape hx
 obtain⟨⟨e0,e1,e2,e3,e4,e5⟩,⟨y0,y1,y2,y3,y4,y5,y6,y7,y8⟩,e7⟩:=box16 p0
 have hc1:nodesC c=if rightC c=true then some (bodyC c,hNd c.sig) else none:=rfl
 have hc2:putC c=if rightC c=true then writeF (nodeC c) 0 else .no 111:=rfl
 obtain⟨R,hR⟩:=nm_ (rightC c)
 rw[hR] at hc1 hc2
 obtain⟨RN,hRN⟩:=nm_ (nodesC c)
 obtain⟨RES,hRES⟩:=nm_ (putC c)
 rw[hRN] at HC hc1
 rw[hRES] at hc2⊢
 have HR:=hd_ (ai_ hc1 hc2)
 have HB:=hd_ hb0
 have HT:=hd_ (hT.below hb0)
 clear hb0 p0 hx hT hR hRN hRES hc1 hc2
 go_enter Tryz.func5,Tryz.ntmps5
 go_wp2_with fail
 clear e0 e1 e2 e3 e4 e5 e7 y0 y1 y2 y3 y4 y5 y6 y7 y8
 refine HC.out.mono ?_
 rintro e w1 ⟨hb1,hpost⟩
 cases R
 ·obtain⟨h1,h2⟩:=HR.out
  rw[if_neg (by decide)] at h1 h2
  subst h1 h2
  obtain rfl:=hpost
  have HE:=hd_ (below_then HB.out (((below_then hb1 (below_new w1 (.cells #[.int .u8 0,.slice none 0 0,.slice none 0 0] 43)) (lr_ _))).alloc (by have:=hb1.size;simp;omega) (.cells #[.int .u8 0,.slice none 0 0,.slice none 0 0] 43)) (lr_ _))
  clear hb1 HC HB HT
  go_wp2_with fail
  go_ret2
  exact⟨HE.out,rfl⟩
 ·obtain⟨h1,h2⟩:=HR.out
  rw[if_pos rfl] at h1 h2
  subst h1
  obtain⟨t1,D1,d1,g1,K1,k1,u1,t2,D2,d2,g2,K2,k2,u2,rfl,n1,n2⟩:=hpost
  obtain⟨W2,hW2⟩:=nm_ ((w1.alloc (.cells #[.int .u8 t1,.slice D1 d1 g1,.slice K1 k1 u1] 43)).alloc (.cells #[.int .u8 t2,.slice D2 d2 g2,.slice K2 k2 u2] 43))
  have hb2:Below w1.heap.size w1 W2:=by rw[←hW2];exact(below_new _ _).alloc (by simp) _
  have v1:W2.heap[w1.heap.size]? =some (.cells #[.int .u8 t1,.slice D1 d1 g1,.slice K1 k1 u1] 43):=by rw[←hW2,heap_old_ _ _ (by simp)];exact heap_new_ _ _
  have v2:W2.heap[w1.heap.size+1]? =some (.cells #[.int .u8 t2,.slice D2 d2 g2,.slice K2 k2 u2] 43):=by rw[←hW2];exact heap_is (by simp)
  obtain⟨_,s0,s1,s2⟩:=st3 v1
  obtain⟨_,s3,s4,s5⟩:=st3 v2
  have hbw:=below_then hb1 hb2 (lr_ _)
  have hn1:=NdC.below hb2 _ _ _ _ n1
  have hn2:=NdC.below hb2 _ _ _ _ n2
  obtain⟨nb,hnb⟩:=nm_ (bodyC c)
  rw[show(bodyC c,hNd c.sig).1=bodyC c from rfl,hnb] at hn1
  rw[show(bodyC c,hNd c.sig).2=hNd c.sig from rfl] at hn2
  rw[show nodeC c=.mk 48 [] [nb,hNd c.sig] by rw[←hnb];rfl] at h2
  obtain⟨ns,hns⟩:=nm_ (hNd c.sig)
  rw[hns] at hn2 h2
  have hb3:=below_new W2 (.cells #[.int .u8 t1,.slice D1 d1 g1,.slice K1 k1 u1,.int .u8 t2,.slice D2 d2 g2,.slice K2 k2 u2] 43)
  have v3:=heap_new_ W2 (.cells #[.int .u8 t1,.slice D1 d1 g1,.slice K1 k1 u1,.int .u8 t2,.slice D2 d2 g2,.slice K2 k2 u2] 43)
  obtain⟨W3,hW3⟩:=nm_ (W2.alloc (.cells #[.int .u8 t1,.slice D1 d1 g1,.slice K1 k1 u1,.int .u8 t2,.slice D2 d2 g2,.slice K2 k2 u2] 43))
  rw[hW3] at hb3 v3
  have hbw3:=below_then hbw hb3 (lr_ _)
  have hnd:NdC (fun _=>True) W3 (.mk 48 [] [nb,ns]) (.int .u8 48) (.slice none 0 0) (.slice (some ⟨W2.heap.size,0,none⟩) 2 2):=ndC_of (by omega) (lr_ _) (by show 2≤maxLen;decide) (two_nodes v3 trivial (NdC.mono (fun _ _=>trivial) _ _ _ _ (NdC.below hb3 _ _ _ _ hn1)) (NdC.mono (fun _ _=>trivial) _ _ _ _ (NdC.below hb3 _ _ _ _ hn2)))
  obtain⟨np,hnp⟩:=nm_ (Nd.mk 48 [] [nb,ns])
  rw[hnp] at hnd h2
  have H2:=hd_ h2
  have HS:=hd_ (seqC_any (some ⟨W2.heap.size,0,none⟩) 2 2 W3)
  have HE:=hd_ (ai_ hbw3 hnd)
  clear hb1 hb2 hbw v1 v2 v3 hb3 hbw3 hnd hn1 hn2 n1 n2 HC hnb hns hnp h2
  go_wp2_with fail
  refine HS.out.mono ?_
  rintro e w4 ⟨rfl,hb4⟩
  have hb4w:=below_then HE.out.1 hb4 (lr_ _)
  have HP:=hd_ (print_any np _ _ w4 ⟨_,_,_,rfl,NdC.below hb4 _ _ _ _ HE.out.2⟩ (HT.out.below hb4w))
  have h2:=H2.out
  obtain⟨r,hr⟩:=nm_ (writeF np 0)
  rw[hr] at HP h2
  clear H2
  subst h2
  have HE:=hd_ (below_then HB.out hb4w (lr_ _))
  clear hb4 hb4w HS HB HT hr s0 s1 s2 s3 s4 s5
  go_wp2_with fail
  refine HP.out.mono ?_
  rintro e w3 hp
  have hp:=prPost_re HE.out hp
  cases RES with
  |no er=>
   obtain⟨h1,rfl⟩:=hp
   go_wp2_with fail
   go_ret2
   exact⟨h1,rfl⟩
  |ok b=>
   obtain⟨h1,A,cc,rfl,h2,h3,h4⟩:=hp
   have HQ:=hd_ (ai_ h1 (ai_ h2 (ai_ h3 h4)))
   clear h1 h2 h3 h4
   obtain⟨len,hlen⟩:=nm_ b.length
   rw[hlen] at HQ
   have HL:=hd_ hlen
   clear hlen
   go_wp2_with fail
   go_ret2
   exact⟨HQ.out.1,A,cc,by rw[HL.out];rfl,by rw[HL.out];exact HQ.out.2.1,by rw[HL.out];exact HQ.out.2.2.1,HQ.out.2.2.2⟩
end Go.Proofs.YtkjkhoglkpepiaaGreatDoor.nmc
