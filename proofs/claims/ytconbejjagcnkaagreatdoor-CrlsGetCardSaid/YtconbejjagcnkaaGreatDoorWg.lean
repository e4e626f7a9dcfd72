/- The bytes of a list of what was taken back: the program's Body and Put. -/
import Derived.Test.YtconbejjagcnkaaGreatDoorWf
set_option maxRecDepth 100000
set_option maxHeartbeats 1600000
set_option linter.unusedVariables false
set_option linter.unusedSimpArgs false
namespace Go.Proofs.YtconbejjagcnkaaGreatDoor.nmc
open Go.RowKit tlvc tlvd ndc txc txm intc intm vtc
theorem bodyL_any (B:Nat→Prop)(c:Cr)(c0 c1 c2 c3 c4:Value)(w:World)(hx:CrC B w c c0 c1 c2 c3 c4)(hT:Tabs w):
 Calls Tryz.prog 8 #[.agg #[c0,c1,c2,c3,c4]] w (PrPost w (bodyV c)):=by
 obtain⟨W0,hW0⟩:=nm_ (w.alloc (.cells #[c0,c1,c2,c3,c4] 26))
 have hb0:Below w.heap.size w W0:=by rw[←hW0];exact below_new _ _
 have p0:W0.heap[w.heap.size]? =some (.cells #[c0,c1,c2,c3,c4] 26):=by rw[←hW0];exact heap_new_ _ _
 have HC:=hd_ (nodesR_any _ c _ _ _ _ _ W0 (hx.below hb0) (hT.below hb0))
 obtain⟨A0,l0,k0,a1,a2,A3,l3,k3,a4,rfl,rfl,rfl,rfl,rfl⟩:=hx.shape
 obtain⟨e0,e1,e2,e3,e4⟩:=box5 p0
 have hc1:nodesL c=if rightL c=true then some (bodyL c,hNd c.sig) else none:=rfl
 have hc2:bodyV c=if rightL c=true then writeF (bodyL c) 0 else .no 121:=rfl
 obtain⟨R,hR⟩:=nm_ (rightL c)
 rw[hR] at hc1 hc2
 obtain⟨RN,hRN⟩:=nm_ (nodesL c)
 obtain⟨RES,hRES⟩:=nm_ (bodyV c)
 rw[hRN] at HC hc1
 rw[hRES] at hc2⊢
 have HR:=hd_ (ai_ hc1 hc2)
 have HB:=hd_ hb0
 have HT:=hd_ (hT.below hb0)
 clear hb0 p0 hx hT hR hRN hRES hc1 hc2
 go_enter Tryz.func8,Tryz.ntmps8
 go_wp2_with fail
 clear e0 e1 e2 e3 e4
 refine HC.out.mono ?_
 rintro e w1 ⟨hb1,hpost⟩
 cases R
 ·obtain⟨h1,h2⟩:=HR.out
  rw[if_neg (by decide)] at h1 h2
  subst h1 h2
  obtain rfl:=hpost
  have HE:=hd_ (below_then HB.out (((below_then hb1 (below_new w1 (.cells #[.int .u8 0,.slice none 0 0,.slice none 0 0] 40)) (lr_ _))).alloc (by have:=hb1.size;simp;omega) (.cells #[.int .u8 0,.slice none 0 0,.slice none 0 0] 40)) (lr_ _))
  clear hb1 HC HB HT
  go_wp2_with fail
  go_ret2
  exact⟨HE.out,rfl⟩
 ·obtain⟨h1,h2⟩:=HR.out
  rw[if_pos rfl] at h1 h2
  subst h1
  obtain⟨t1,D1,d1,g1,K1,k1,u1,t2,D2,d2,g2,K2,k2,u2,rfl,n1,n2⟩:=hpost
  obtain⟨W2,hW2⟩:=nm_ ((w1.alloc (.cells #[.int .u8 t1,.slice D1 d1 g1,.slice K1 k1 u1] 40)).alloc (.cells #[.int .u8 t2,.slice D2 d2 g2,.slice K2 k2 u2] 40))
  have hb2:Below w1.heap.size w1 W2:=by rw[←hW2];exact(below_new _ _).alloc (by simp) _
  have v1:W2.heap[w1.heap.size]? =some (.cells #[.int .u8 t1,.slice D1 d1 g1,.slice K1 k1 u1] 40):=by rw[←hW2,heap_old_ _ _ (by simp)];exact heap_new_ _ _
  have v2:W2.heap[w1.heap.size+1]? =some (.cells #[.int .u8 t2,.slice D2 d2 g2,.slice K2 k2 u2] 40):=by rw[←hW2];exact heap_is (by simp)
  obtain⟨_,s0,s1,s2⟩:=st3 v1
  obtain⟨_,s3,s4,s5⟩:=st3 v2
  have hbw:=below_then hb1 hb2 (lr_ _)
  have hn1:=NdC.below hb2 _ _ _ _ n1
  have hn2:=NdC.below hb2 _ _ _ _ n2
  obtain⟨nb,hnb⟩:=nm_ (bodyL c)
  rw[show(bodyL c,hNd c.sig).1=bodyL c from rfl,hnb] at hn1
  rw[show(bodyL c,hNd c.sig).2=hNd c.sig from rfl] at hn2
  rw[hnb] at h2
  have HP:=hd_ (print_any nb _ _ W2 ⟨_,_,_,rfl,hn1⟩ (HT.out.below hbw))
  obtain⟨r,hr⟩:=nm_ (writeF nb 0)
  rw[hr] at HP h2
  subst h2
  have HE:=hd_ (below_then HB.out hbw (lr_ _))
  clear hb1 hb2 hbw v1 v2 hn1 hn2 n1 n2 HC hnb HT HB hr
  go_wp2_with fail
  refine HP.out.mono ?_
  rintro e w3 hp
  have hp:=prPost_re HE.out hp
  clear s0 s1 s2 s3 s4 s5
  cases RES with
  |no er=>
   obtain⟨h1,rfl⟩:=hp
   go_wp2_with fail
   go_ret2
   exact⟨h1,rfl⟩
  |ok b=>
   obtain⟨h1,A,cc,rfl,h2,h3,h4⟩:=hp
   have HQ:=hd_ (ai_ h1 (ai_ h2 (ai_ h3 h4)))
   clear h1 h2 h3 h4
   obtain⟨len,hlen⟩:=nm_ b.length
   rw[hlen] at HQ
   have HL:=hd_ hlen
   clear hlen
   go_wp2_with fail
   go_ret2
   exact⟨HQ.out.1,A,cc,by rw[HL.out];rfl,by rw[HL.out];exact HQ.out.2.1,by rw[HL.out];exact HQ.out.2.2.1,HQ.out.2.2.2⟩
theorem putL_any (B:Nat→Prop)(c:Cr)(c0 c1 c2 c3 c4:Value)(w:World)(hx:CrC B w c c0 c1 c2 c3 c4)(hT:Tabs w):
 Calls Tryz.prog 6 #[.agg #[c0,c1,c2,c3,c4]] w (PrPost w (putL c)):=by
 obtain⟨W0,hW0⟩:=nm_ (w.alloc (.cells #[c0,c1,c2,c3,c4] 26))
 have hb0:Below w.heap.size w W0:=by rw[←hW0];exact below_new _ _
 have p0:W0.heap[w.heap.size]? =some (.cells #[c0,c1,c2,c3,c4] 26):=by rw[←hW0];exact heap_new_ _ _
 have HC:=hd_ (nodesR_any _ c _ _ _ _ _ W0 (hx.below hb0) (hT.below hb0))
 obtain⟨A0,l0,k0,a1,a2,A3,l3,k3,a4,rfl,rfl,rfl,rfl,rfl⟩:=hx.shape
 obtain⟨e0,e1,e2,e3,e4⟩:=box5 p0
 have hc1:nodesL c=if rightL c=true then some (bodyL c,hNd c.sig) else none:=rfl
 have hc2:putL c=if rightL c=true then writeF (nodeL c) 0 else .no 121:=rfl
 obtain⟨R,hR⟩:=nm_ (rightL c)
 rw[hR] at hc1 hc2
 obtain⟨RN,hRN⟩:=nm_ (nodesL c)
 obtain⟨RES,hRES⟩:=nm_ (putL c)
 rw[hRN] at HC hc1
 rw[hRES] at hc2⊢
 have HR:=hd_ (ai_ hc1 hc2)
 have HB:=hd_ hb0
 have HT:=hd_ (hT.below hb0)
 clear hb0 p0 hx hT hR hRN hRES hc1 hc2
 go_enter Tryz.func6,Tryz.ntmps6
 go_wp2_with fail
 clear e0 e1 e2 e3 e4
 refine HC.out.mono ?_
 rintro e w1 ⟨hb1,hpost⟩
 cases R
 ·obtain⟨h1,h2⟩:=HR.out
  rw[if_neg (by decide)] at h1 h2
  subst h1 h2
  obtain rfl:=hpost
  have HE:=hd_ (below_then HB.out (((below_then hb1 (below_new w1 (.cells #[.int .u8 0,.slice none 0 0,.slice none 0 0] 40)) (lr_ _))).alloc (by have:=hb1.size;simp;omega) (.cells #[.int .u8 0,.slice none 0 0,.slice none 0 0] 40)) (lr_ _))
  clear hb1 HC HB HT
  go_wp2_with fail
  go_ret2
  exact⟨HE.out,rfl⟩
 ·obtain⟨h1,h2⟩:=HR.out
  rw[if_pos rfl] at h1 h2
  subst h1
  obtain⟨t1,D1,d1,g1,K1,k1,u1,t2,D2,d2,g2,K2,k2,u2,rfl,n1,n2⟩:=hpost
  obtain⟨W2,hW2⟩:=nm_ ((w1.alloc (.cells #[.int .u8 t1,.slice D1 d1 g1,.slice K1 k1 u1] 40)).alloc (.cells #[.int .u8 t2,.slice D2 d2 g2,.slice K2 k2 u2] 40))
  have hb2:Below w1.heap.size w1 W2:=by rw[←hW2];exact(below_new _ _).alloc (by simp) _
  have v1:W2.heap[w1.heap.size]? =some (.cells #[.int .u8 t1,.slice D1 d1 g1,.slice K1 k1 u1] 40):=by rw[←hW2,heap_old_ _ _ (by simp)];exact heap_new_ _ _
  have v2:W2.heap[w1.heap.size+1]? =some (.cells #[.int .u8 t2,.slice D2 d2 g2,.slice K2 k2 u2] 40):=by rw[←hW2];exact heap_is (by simp)
  obtain⟨_,s0,s1,s2⟩:=st3 v1
  obtain⟨_,s3,s4,s5⟩:=st3 v2
  have hbw:=below_then hb1 hb2 (lr_ _)
  have hn1:=NdC.below hb2 _ _ _ _ n1
  have hn2:=NdC.below hb2 _ _ _ _ n2
  obtain⟨nb,hnb⟩:=nm_ (bodyL c)
  rw[show(bodyL c,hNd c.sig).1=bodyL c from rfl,hnb] at hn1
  rw[show(bodyL c,hNd c.sig).2=hNd c.sig from rfl] at hn2
  rw[show nodeL c=.mk 48 [] [nb,hNd c.sig] by rw[←hnb];rfl] at h2
  obtain⟨ns,hns⟩:=nm_ (hNd c.sig)
  rw[hns] at hn2 h2
  have hb3:=below_new W2 (.cells #[.int .u8 t1,.slice D1 d1 g1,.slice K1 k1 u1,.int .u8 t2,.slice D2 d2 g2,.slice K2 k2 u2] 40)
  have v3:=heap_new_ W2 (.cells #[.int .u8 t1,.slice D1 d1 g1,.slice K1 k1 u1,.int .u8 t2,.slice D2 d2 g2,.slice K2 k2 u2] 40)
  obtain⟨W3,hW3⟩:=nm_ (W2.alloc (.cells #[.int .u8 t1,.slice D1 d1 g1,.slice K1 k1 u1,.int .u8 t2,.slice D2 d2 g2,.slice K2 k2 u2] 40))
  rw[hW3] at hb3 v3
  have hbw3:=below_then hbw hb3 (lr_ _)
  have hnd:NdC (fun _=>True) W3 (.mk 48 [] [nb,ns]) (.int .u8 48) (.slice none 0 0) (.slice (some ⟨W2.heap.size,0,none⟩) 2 2):=ndC_of (by omega) (lr_ _) (by show 2≤maxLen;decide) (two_nodes v3 trivial (NdC.mono (fun _ _=>trivial) _ _ _ _ (NdC.below hb3 _ _ _ _ hn1)) (NdC.mono (fun _ _=>trivial) _ _ _ _ (NdC.below hb3 _ _ _ _ hn2)))
  obtain⟨np,hnp⟩:=nm_ (Nd.mk 48 [] [nb,ns])
  rw[hnp] at hnd h2
  have H2:=hd_ h2
  have HS:=hd_ (seqC_any (some ⟨W2.heap.size,0,none⟩) 2 2 W3)
  have HE:=hd_ (ai_ hbw3 hnd)
  clear hb1 hb2 hbw v1 v2 v3 hb3 hbw3 hnd hn1 hn2 n1 n2 HC hnb hns hnp h2
  go_wp2_with fail
  refine HS.out.mono ?_
  rintro e w4 ⟨rfl,hb4⟩
  have hb4w:=below_then HE.out.1 hb4 (lr_ _)
  have HP:=hd_ (print_any np _ _ w4 ⟨_,_,_,rfl,NdC.below hb4 _ _ _ _ HE.out.2⟩ (HT.out.below hb4w))
  have h2:=H2.out
  obtain⟨r,hr⟩:=nm_ (writeF np 0)
  rw[hr] at HP h2
  clear H2
  subst h2
  have HE:=hd_ (below_then HB.out hb4w (lr_ _))
  clear hb4 hb4w HS HB HT hr s0 s1 s2 s3 s4 s5
  go_wp2_with fail
  refine HP.out.mono ?_
  rintro e w3 hp
  have hp:=prPost_re HE.out hp
  cases RES with
  |no er=>
   obtain⟨h1,rfl⟩:=hp
   go_wp2_with fail
   go_ret2
   exact⟨h1,rfl⟩
  |ok b=>
   obtain⟨h1,A,cc,rfl,h2,h3,h4⟩:=hp
   have HQ:=hd_ (ai_ h1 (ai_ h2 (ai_ h3 h4)))
   clear h1 h2 h3 h4
   obtain⟨len,hlen⟩:=nm_ b.length
   rw[hlen] at HQ
   have HL:=hd_ hlen
   clear hlen
   go_wp2_with fail
   go_ret2
   exact⟨HQ.out.1,A,cc,by rw[HL.out];rfl,by rw[HL.out];exact HQ.out.2.1,by rw[HL.out];exact HQ.out.2.2.1,HQ.out.2.2.2⟩
end Go.Proofs.YtconbejjagcnkaaGreatDoor.nmc
