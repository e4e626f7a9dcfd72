/- The document's Body and Put of a certificate. -/
import Derived.Test.YtkjkhoglkpepiaaGreatDoorMb
import Derived.Test.YtkjkhoglkpepiaaGreatDoorQe
set_option maxRecDepth 100000
set_option maxHeartbeats 16000000
set_option linter.unusedVariables false
set_option linter.unusedSimpArgs false
namespace Go.Proofs.YtkjkhoglkpepiaaGreatDoor.nmc
open Go.RowKit tlvc tlvd ndc txc txm intc intm vtc
theorem sz_nm {l:List At}(h:rightN l=true):szN (nameN l)≤25:=by
 have h8:=(rightN_parts h).1
 have e:szN (nameN l)=szL (l.map attrN)+1:=rfl
 rw[e]
 have:=szL_le_ (L:=3) (ks:=l.map attrN) (fun k hk=>by obtain⟨a,_,rfl⟩:=List.mem_map.1 hk;exact lr_ 3)
 rw[List.length_map] at this
 omega
theorem sz_extF (d:Od):szN (extF d)≤4:=by
 unfold extF
 rw[sz_mk,szL_app,szL_app]
 have a:=sz_only true (oidN d.oid)
 have b:=sz_only d.crit truthN
 have c:=sz_only true (.mk 4 d.body [])
 have e:szN (oidN d.oid)=1:=rfl
 have f:szN truthN=1:=rfl
 have g:szN (.mk 4 d.body [])=1:=rfl
 omega
theorem sz_nodeX {x:Ex}(h:rightX x=true):szN (nodeX x)≤100:=by
 unfold rightX at h
 simp only[Bool.and_eq_true] at h
 have h16:=(bounded_parts h.1.1).2.2.2.2.1
 unfold nodeX
 rw[sz_mk,szL_app]
 have k1:=szL_le_ (L:=4) (ks:=knownN x ks5) (fun k hk=>by unfold knownN at hk;obtain⟨a,_,rfl⟩:=List.mem_map.1 hk;exact sz_extF _)
 have k2:=szL_le_ (L:=4) (ks:=x.odd.map extF) (fun k hk=>by obtain⟨a,_,rfl⟩:=List.mem_map.1 hk;exact sz_extF _)
 have k3:=kn_len x ks5
 have k4:ks5.length=5:=rfl
 rw[List.length_map] at k2
 omega
theorem sz_bodyC {c:Ce}(h:rightC c=true):szN (bodyC c)≤1000:=by
 obtain⟨_,h1,_,_,h4,_,h6,_⟩:=rightC_parts h
 unfold bodyC
 rw[sz_mk,szL_app]
 have a:=sz_nm h1
 have b:=sz_nm h4
 have d:=sz_nodeX h6
 have e:szL (moreL c.ex)≤110:=by
  unfold moreL
  split
  ·exact Nat.zero_le _
  ·show szL [nodeX c.ex]+1+0≤110
   show szN (nodeX c.ex)+0+1+0≤110
   omega
 have g:szL [numN c.ser,nameN c.iss,.mk 48 [] [timeNd c.frm,timeNd c.til],nameN c.sub,hNd c.key]=1+ (szN (nameN c.iss)+ (3+ (szN (nameN c.sub)+ (1+0)))):=rfl
 omega
theorem sz_nodeC {c:Ce}(h:rightC c=true):szN (nodeC c)≤20000:=by
 have e:szN (nodeC c)=szN (bodyC c)+ (1+0)+1:=rfl
 rw[e]
 have:=sz_bodyC h
 omega
def okOf (r:WR):List Int:=match r with
 | .ok b=>b
 | .no _=>[]
def erOf (r:WR):Int:=match r with
 | .ok _=>0
 | .no e=>e
def UPost (w:World)(r:WR)(e:Ending)(w':World):Prop:=Below w.heap.size w w'∧∃A n c,e=.returned (.tuple #[.slice A n c,.int .i64 (erOf r)])∧n=(okOf r).length∧Bys w' A n (okOf r)
theorem dp_u {w w':World}{r:WR}{e:Ending}(h:DPost w r e w'):UPost w r e w':=by
 obtain⟨h1,h2⟩:=h
 refine⟨h1,?_⟩
 cases r with
 |no er=>obtain⟨A,c,rfl⟩:=h2;exact⟨A,0,c,rfl,rfl,Bys.nil_ _ _⟩
 |ok b=>obtain⟨A,c,rfl,h3,_⟩:=h2;exact⟨A,_,c,rfl,rfl,h3⟩
theorem pp_u {w w':World}{r:WR}{e:Ending}(h:PrPost w r e w'):UPost w r e w':=by
 obtain⟨h1,h2⟩:=h
 refine⟨h1,?_⟩
 cases r with
 |no er=>obtain rfl:=h2;exact⟨_,0,_,rfl,rfl,Bys.nil_ _ _⟩
 |ok b=>obtain⟨A,c,rfl,h3,_⟩:=h2;exact⟨A,_,c,rfl,rfl,h3⟩
theorem rBodyC_any (B:Nat→Prop)(c:Ce)(c0 c1 c2 c3 c4 c5 x0 x1 x2 x3 x4 x5 x6 x7 x8 c6:Value)(w:World)(hx:CeC B w c c0 c1 c2 c3 c4 c5 x0 x1 x2 x3 x4 x5 x6 x7 x8 c6)(hT:Tabs w):
 Calls Tryz.prog 8 #[.agg #[c0,c1,c2,c3,c4,c5,x0,x1,x2,x3,x4,x5,x6,x7,x8,c6]] w (UPost w (bodyW c)):=by
 obtain⟨a0,A1,l1,i1,a2,a3,A4,l4,i4,a5,q0,q1,q2,q3,B4,m4,j4,B5,m5,j5,B6,m6,j6,B7,m7,j7,B8,m8,j8,a7,rfl,rfl,rfl,rfl,rfl,rfl,rfl,rfl,rfl,rfl,rfl,rfl,rfl,rfl,rfl,rfl⟩:=ceC_shape hx
 obtain⟨W0,hW0⟩:=nm_ (w.alloc (.cells #[.int .i64 a0,.slice A1 l1 i1,.int .i64 a2,.int .i64 a3,.slice A4 l4 i4,.int .i64 a5,.bool q0,.bool q1,.int .i64 q2,.int .u16 q3,.slice B4 m4 j4,.slice B5 m5 j5,.slice B6 m6 j6,.slice B7 m7 j7,.slice B8 m8 j8,.int .i64 a7] 32))
 have hb0:Below w.heap.size w W0:=by rw[←hW0];exact below_new _ _
 have p0:W0.heap[w.heap.size]? =some (.cells #[.int .i64 a0,.slice A1 l1 i1,.int .i64 a2,.int .i64 a3,.slice A4 l4 i4,.int .i64 a5,.bool q0,.bool q1,.int .i64 q2,.int .u16 q3,.slice B4 m4 j4,.slice B5 m5 j5,.slice B6 m6 j6,.slice B7 m7 j7,.slice B8 m8 j8,.int .i64 a7] 32):=by rw[←hW0];exact heap_new_ _ _
 have HC:=hd_ (rrightC_any _ c _ _ _ _ _ _ _ _ _ _ _ _ _ _ _ _ W0 (hx.below hb0) (hT.below hb0))
 have HX:=hd_ (fun W (hW:Below W0.heap.size W0 W)=>ai_ (hx.below (below_then hb0 hW (lr_ _))) (hT.below (below_then hb0 hW (lr_ _))))
 have HP:=hd_ (fun W (hW:Below W0.heap.size W0 W)=>box16 ((hW.block _ (Array.getElem?_eq_some_iff.1 p0).1).trans p0))
 have HS:=hd_ (show a7=c.sig by have:=hx.sig.1;simpa using this)
 have HB:=hd_ hb0
 obtain⟨⟨y0,y1,y2,y3,y4,y5⟩,⟨y6,y7,y8,y9,y10,y11,y12,y13,y14⟩,y15⟩:=box16 p0
 obtain⟨R,hR⟩:=nm_ (rightC c)
 rw[hR] at HC
 have HR:=hd_ hR
 clear p0 hx hT hb0 hR
 go_enter Tryz.func8,Tryz.ntmps8
 go_wp2_with fail
 clear y0 y1 y2 y3 y4 y5 y6 y7 y8 y9 y10 y11 y12 y13 y14 y15
 refine HC.out.mono ?_
 rintro e w1 ⟨rfl,hb1⟩
 have HE:=hd_ (below_then HB.out hb1 (lr_ _))
 have H1:=hd_ hb1
 clear hb1 HC
 cases R with
 |false=>
  have hv:bodyW c=.no 111:=by unfold bodyW;rw[if_neg (by rw[HR.out];decide)]
  go_wp2
  go_ret2
  exact(show UPost w (bodyW c) _ _ by rw[hv];exact⟨HE.out,none,0,0,rfl,rfl,Bys.nil_ _ _⟩)
 |true=>
  obtain⟨⟨y0,y1,y2,y3,y4,y5⟩,⟨y6,y7,y8,y9,y10,y11,y12,y13,y14⟩,y15⟩:=HP.out w1 H1.out
  have HC:=hd_ (rbodyC_any _ c _ _ _ _ _ _ _ _ _ _ _ _ _ _ _ _ w1 (HX.out w1 H1.out).1 (HX.out w1 H1.out).2 HR.out)
  go_wp2_with fail
  clear y0 y1 y2 y3 y4 y5 y6 y7 y8 y9 y10 y11 y12 y13 y14 y15
  refine HC.out.mono ?_
  rintro e w2 ⟨hb2,t,A,l,k,K,m,u,rfl,hn⟩
  have hb2:=below_then H1.out hb2 (lr_ _)
  have hV:bodyW c=writeF (bodyC c) 0:=by unfold bodyW;rw[if_pos HR.out]
  have hq:=(refPrint_any (bodyC c) (by have:=sz_bodyC HR.out;omega) _ _ w2 ⟨_,_,_,rfl,hn⟩ (HX.out w2 hb2).2).mono (fun e w' h=>dp_u h)
  rw[←hV] at hq
  have HD:=hd_ hq
  have HE:=hd_ (below_then HB.out hb2 (lr_ _))
  clear hq hV hn hb2 HC
  go_wp2_with fail
  refine HD.out.mono ?_
  rintro e w3 ⟨hb3,A9,n9,c9,rfl,g1,g2⟩
  have HF:=hd_ (ai_ (below_then HE.out hb3 (lr_ _)) (ai_ g1 g2))
  obtain⟨er,her⟩:=nm_ (erOf (bodyW c))
  have HER:=hd_ her
  rw[her]
  clear hb3 g1 g2 her
  go_wp2
  go_ret2
  exact⟨HF.out.1,A9,n9,c9,by rw[HER.out];rfl,HF.out.2⟩
theorem rputC_any (B:Nat→Prop)(c:Ce)(c0 c1 c2 c3 c4 c5 x0 x1 x2 x3 x4 x5 x6 x7 x8 c6:Value)(w:World)(hx:CeC B w c c0 c1 c2 c3 c4 c5 x0 x1 x2 x3 x4 x5 x6 x7 x8 c6)(hT:Tabs w):
 Calls Tryz.prog 6 #[.agg #[c0,c1,c2,c3,c4,c5,x0,x1,x2,x3,x4,x5,x6,x7,x8,c6]] w (UPost w (putC c)):=by
 have mixed:Tryz.prog.follows Departure.mixedOrders=true:=by kernel_rfl
 obtain⟨a0,A1,l1,i1,a2,a3,A4,l4,i4,a5,q0,q1,q2,q3,B4,m4,j4,B5,m5,j5,B6,m6,j6,B7,m7,j7,B8,m8,j8,a7,rfl,rfl,rfl,rfl,rfl,rfl,rfl,rfl,rfl,rfl,rfl,rfl,rfl,rfl,rfl,rfl⟩:=ceC_shape hx
 obtain⟨W0,hW0⟩:=nm_ (w.alloc (.cells #[.int .i64 a0,.slice A1 l1 i1,.int .i64 a2,.int .i64 a3,.slice A4 l4 i4,.int .i64 a5,.bool q0,.bool q1,.int .i64 q2,.int .u16 q3,.slice B4 m4 j4,.slice B5 m5 j5,.slice B6 m6 j6,.slice B7 m7 j7,.slice B8 m8 j8,.int .i64 a7] 32))
 have hb0:Below w.heap.size w W0:=by rw[←hW0];exact below_new _ _
 have p0:W0.heap[w.heap.size]? =some (.cells #[.int .i64 a0,.slice A1 l1 i1,.int .i64 a2,.int .i64 a3,.slice A4 l4 i4,.int .i64 a5,.bool q0,.bool q1,.int .i64 q2,.int .u16 q3,.slice B4 m4 j4,.slice B5 m5 j5,.slice B6 m6 j6,.slice B7 m7 j7,.slice B8 m8 j8,.int .i64 a7] 32):=by rw[←hW0];exact heap_new_ _ _
 have HC:=hd_ (rrightC_any _ c _ _ _ _ _ _ _ _ _ _ _ _ _ _ _ _ W0 (hx.below hb0) (hT.below hb0))
 have HX:=hd_ (fun W (hW:Below W0.heap.size W0 W)=>ai_ (hx.below (below_then hb0 hW (lr_ _))) (hT.below (below_then hb0 hW (lr_ _))))
 have HP:=hd_ (fun W (hW:Below W0.heap.size W0 W)=>box16 ((hW.block _ (Array.getElem?_eq_some_iff.1 p0).1).trans p0))
 have HS:=hd_ (show a7=c.sig by have:=hx.sig.1;simpa using this)
 have HB:=hd_ hb0
 obtain⟨⟨y0,y1,y2,y3,y4,y5⟩,⟨y6,y7,y8,y9,y10,y11,y12,y13,y14⟩,y15⟩:=box16 p0
 obtain⟨R,hR⟩:=nm_ (rightC c)
 rw[hR] at HC
 have HR:=hd_ hR
 clear p0 hx hT hb0 hR
 go_enter Tryz.func6,Tryz.ntmps6
 go_wp2_with fail
 clear y0 y1 y2 y3 y4 y5 y6 y7 y8 y9 y10 y11 y12 y13 y14 y15
 refine HC.out.mono ?_
 rintro e w1 ⟨rfl,hb1⟩
 have HE:=hd_ (below_then HB.out hb1 (lr_ _))
 have H1:=hd_ hb1
 clear hb1 HC
 cases R with
 |false=>
  have hv:putC c=.no 111:=by unfold putC;rw[if_neg (by rw[HR.out];decide)]
  go_wp2
  go_ret2
  exact(show UPost w (putC c) _ _ by rw[hv];exact⟨HE.out,none,0,0,rfl,rfl,Bys.nil_ _ _⟩)
 |true=>
  obtain⟨⟨y0,y1,y2,y3,y4,y5⟩,⟨y6,y7,y8,y9,y10,y11,y12,y13,y14⟩,y15⟩:=HP.out w1 H1.out
  have HH4:=hd_ (show 0≤a7∧a7<281474976710656 by rw[HS.out];exact(rightC_parts HR.out).2.2.2.2.2.2.2)
  go_upto_region 4 with fail
  try dsimp only
  refine wp_region_noPanic ?_
  refine rh_ mixed (S:=fun X:World=>(X.cell? ⟨w.heap.size,0,none⟩=some (.int .i64 a0)∧X.cell? ⟨w.heap.size,1,none⟩=some (.slice A1 l1 i1)∧X.cell? ⟨w.heap.size,2,none⟩=some (.int .i64 a2)∧X.cell? ⟨w.heap.size,3,none⟩=some (.int .i64 a3)∧X.cell? ⟨w.heap.size,4,none⟩=some (.slice A4 l4 i4)∧X.cell? ⟨w.heap.size,5,none⟩=some (.int .i64 a5))∧(X.cell? ⟨w.heap.size,6,none⟩=some (.bool q0)∧X.cell? ⟨w.heap.size,7,none⟩=some (.bool q1)∧X.cell? ⟨w.heap.size,8,none⟩=some (.int .i64 q2)∧X.cell? ⟨w.heap.size,9,none⟩=some (.int .u16 q3)∧X.cell? ⟨w.heap.size,10,none⟩=some (.slice B4 m4 j4)∧X.cell? ⟨w.heap.size,11,none⟩=some (.slice B5 m5 j5)∧X.cell? ⟨w.heap.size,12,none⟩=some (.slice B6 m6 j6)∧X.cell? ⟨w.heap.size,13,none⟩=some (.slice B7 m7 j7)∧X.cell? ⟨w.heap.size,14,none⟩=some (.slice B8 m8 j8))∧X.cell? ⟨w.heap.size,15,none⟩=some (.int .i64 a7)) (K:=fun X=>Below W0.heap.size W0 X) (fun X h=>HP.out X h) (below_then H1.out (below_drew w1) (lr_ _)) (fun hHeld=>?_)
  have hbd:=below_then H1.out (below_drew w1) (lr_ _)
  obtain⟨wd,hwd⟩:=nm_ (w1.drew)
  rw[hwd] at hHeld hbd⊢
  have H0:=hd_ hbd
  have HBC:=hd_ (rbodyC_any _ c _ _ _ _ _ _ _ _ _ _ _ _ _ _ _ _ wd (HX.out wd hbd).1 (HX.out wd hbd).2 HR.out)
  clear hwd hbd
  clear y0 y1 y2 y3 y4 y5 y6 y7 y8 y9 y10 y11 y12 y13 y14 y15
  refine tk_ (i:=0) (y:=by
   refine Or.inl ⟨by rfl,?_⟩
   intro wS hSw
   obtain⟨⟨y0,y1,y2,y3,y4,y5⟩,⟨y6,y7,y8,y9,y10,y11,y12,y13,y14⟩,y15⟩:=hSw
   go_simp
   (try with_reducible rfl)
   done) (z:=?_)
  refine tk_ (i:=2) (z:=?_)
  refine tk_ (i:=3) (y:=by
   refine Or.inl ⟨by rfl,?_⟩
   intro wS hSw
   obtain⟨_,_,y15⟩:=hSw
   go_simp
   (try with_reducible rfl)
   done) (z:=?_)
  refine on_ (i:=1) (z:=fun KK hKK=>?_)
  go_simp
  refine HBC.out.mono ?_
  rintro e w2 ⟨hb2,t2,D2,d2,g2,K2,k2,u2,rfl,hn2⟩
  dsimp only
  have hbz:=below_then H0.out hb2 (lr_ _)
  refine hKK.out _ _ (HP.out _ hbz) (fun hHeld=>?_)
  clear hKK KK
  try simp only[Act.put,qa_,qb_,qc_]
  have H2:=hd_ (ai_ hb2 (ai_ hbz hn2))
  clear hb2 hbz hn2 HBC
  refine on_ (i:=4) (z:=fun KK hKK=>?_)
  go_simp
  refine(rhandleC_any a7 w2 HH4.out).mono ?_
  rintro e w3 ⟨hb3,t3,D3,d3,g3,K3,k3,u3,rfl,hn3⟩
  dsimp only
  have hbz:=below_then H2.out.2.1 hb3 (lr_ _)
  refine hKK.out _ _ (HP.out _ hbz) (fun hHeld=>?_)
  clear hKK KK
  try simp only[Act.put,qa_,qb_,qc_]
  have H3:=hd_ (ai_ hb3 (ai_ hbz hn3))
  clear hb3 hbz hn3
  refine on_ (i:=5) (z:=fun KK hKK=>?_)
  go_simp
  have hbn:=below_new w3 (.cells #[.int .u8 t2,.slice D2 d2 g2,.slice K2 k2 u2,.int .u8 t3,.slice D3 d3 g3,.slice K3 k3 u3] 43)
  have hqn:=heap_new_ w3 (.cells #[.int .u8 t2,.slice D2 d2 g2,.slice K2 k2 u2,.int .u8 t3,.slice D3 d3 g3,.slice K3 k3 u3] 43)
  obtain⟨wn,hwn⟩:=nm_ (w3.alloc (.cells #[.int .u8 t2,.slice D2 d2 g2,.slice K2 k2 u2,.int .u8 t3,.slice D3 d3 g3,.slice K3 k3 u3] 43))
  rw[hwn] at hbn hqn⊢
  have hbz:=below_then H3.out.2.1 hbn (lr_ _)
  refine hKK.out _ _ (HP.out _ hbz) (fun hHeld=>?_)
  clear hKK KK
  try simp only[Act.put,qa_,qb_,qc_]
  have n2:=NdC.mono (B':=fun _=>True) (fun _ _=>trivial) _ _ _ _ (NdC.below hbn _ _ _ _ (NdC.below H3.out.1 _ _ _ _ H2.out.2.2))
  have n3:=NdC.mono (B':=fun _=>True) (fun _ _=>trivial) _ _ _ _ (NdC.below hbn _ _ _ _ H3.out.2.2)
  have hS:=rseq_any _ 48 (some ⟨w3.heap.size,0,none⟩) 2 2 [bodyC c,hNd a7] wn (by omega) rfl (lr_ _) (by decide) (two_nodes hqn trivial n2 n3)
  rw[HS.out] at hS
  have HC5:=hd_ (ai_ hS hbz)
  clear hS n2 n3 hbz hqn hbn hwn H3 H2
  refine on_ (i:=6) (z:=fun KK hKK=>?_)
  go_simp
  refine HC5.out.1.mono ?_
  rintro e w5 ⟨hb5,t5,D5,d5,g5,K5,k5,u5,rfl,hn5⟩
  dsimp only
  have hbz:=below_then HC5.out.2 hb5 (lr_ _)
  refine hKK.out _ _ (HP.out _ hbz) (fun hHeld=>?_)
  clear hKK KK
  try simp only[Act.put,qa_,qb_,qc_]
  have hV:putC c=writeF (nodeC c) 0:=by unfold putC;rw[if_pos HR.out]
  have hq:=(refPrint_any (nodeC c) (sz_nodeC HR.out) _ _ w5 ⟨_,_,_,rfl,hn5⟩ (HX.out w5 hbz).2).mono (fun e w' h=>dp_u h)
  rw[←hV] at hq
  have HD:=hd_ hq
  have HE:=hd_ (ai_ (below_then HB.out hbz (lr_ _)) hbz)
  clear hq hV hn5 hb5 hbz HC5
  refine on_ (i:=7) (z:=fun KK hKK=>?_)
  go_simp
  refine HD.out.mono ?_
  rintro e w6 ⟨hb6,A9,n9,c9,rfl,h1,h2⟩
  obtain⟨er,her⟩:=nm_ (erOf (putC c))
  have HER:=hd_ her
  rw[her]
  dsimp only
  have HF:=hd_ (ai_ (below_then HE.out.1 hb6 (lr_ _)) (ai_ h1 h2))
  refine hKK.out _ _ (HP.out _ (below_then HE.out.2 hb6 (lr_ _))) (fun hHeld=>?_)
  clear hKK KK
  try simp only[Act.put,qa_,qb_,qc_]
  clear hb6 h1 h2 her HD
  refine tk_ (i:=8) (z:=?_)
  refine tk_ (i:=9) (z:=?_)
  refine tk_ (i:=10) (z:=?_)
  refine tk_ (i:=11) (z:=?_)
  refine wpAnyH_done (by kernel_rfl) ?_ _
  refine NoPanic.normal ?_
  clear hHeld
  go_wp2_with fail
  go_ret2
  exact⟨HF.out.1,A9,n9,c9,by rw[HER.out];rfl,HF.out.2⟩
end Go.Proofs.YtkjkhoglkpepiaaGreatDoor.nmc
