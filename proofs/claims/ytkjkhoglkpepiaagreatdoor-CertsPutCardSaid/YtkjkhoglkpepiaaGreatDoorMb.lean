/- The document's body of a certificate. -/
import Derived.Test.YtkjkhoglkpepiaaGreatDoorMa
import Derived.Test.YtkjkhoglkpepiaaGreatDoorBd
import Derived.Deep.Cut
set_option maxRecDepth 100000
set_option maxHeartbeats 16000000
set_option linter.unusedVariables false
set_option linter.unusedSimpArgs false
namespace Go.Proofs.YtkjkhoglkpepiaaGreatDoor.nmc
open Go.RowKit tlvc tlvd ndc txc txm intc intm vtc
theorem five_row {W0 W W':World}{g:Nat}{n1 n2 n3 n4 n5:Nd}{x0 x1 x2 y0 y1 y2 z0 z1 z2 u0 u1 u2 v0 v1 v2:Value}(hb:W0.heap.size≤W.heap.size)
 (h1:NdC (fun g=>W0.heap.size≤g) W n1 x0 x1 x2) (h2:NdC (fun g=>W0.heap.size≤g) W n2 y0 y1 y2) (h3:NdC (fun g=>W0.heap.size≤g) W n3 z0 z1 z2) (h4:NdC (fun g=>W0.heap.size≤g) W n4 u0 u1 u2) (h5:NdC (fun g=>W0.heap.size≤g) W n5 v0 v1 v2)
 (hW0:Below W0.heap.size W0 W') (hW:Below W.heap.size W W') (hg:W.heap.size≤g) (hq:W'.heap[g]? =some (.cells #[x0,x1,x2,y0,y1,y2,z0,z1,z2,u0,u1,u2,v0,v1,v2] 43)):SG W0 [n1,n2,n3,n4,n5] (.slice (some ⟨g,0,none⟩) 5 5) W':=by
 have tr: ∀n c0 c1 c2,NdC (fun g=>W0.heap.size≤g) W n c0 c1 c2→NdC (Fr (fun g=>W0.heap.size≤g) W'.heap.size (some g)) W' n c0 c1 c2:=fun n c0 c1 c2 h=>NdC.mono (fun i hi=>⟨hi.1,by have:=hi.2;have:=hW.size;omega,fun e=>by have:=Option.some.inj e;have:=hi.2;omega⟩) _ _ _ _ (NdC.below hW _ _ _ _ (NdC.bound _ _ _ _ h))
 exact⟨hW0,grow_new (E:=ndE) (base:=W0.heap.size) (Y:=fun g=>W0.heap.size≤g) (n:=5) hq rfl (by omega) rfl rfl (by decide) (all_nd (tr _ _ _ _ h1) (all_nd (tr _ _ _ _ h2) (all_nd (tr _ _ _ _ h3) (all_nd (tr _ _ _ _ h4) (all_nd (tr _ _ _ _ h5) all_nil)))))⟩
theorem szL_le_ {L:Nat}: ∀{ks:List Nd},(∀k∈ks,szN k≤L)→szL ks≤ks.length*L
 | [],_=>by simp[szL]
 |k::ks,h=>by
  have h1:=h k (by simp)
  have h2:=szL_le_ (fun n hn=>h n (List.mem_cons_of_mem _ hn))
  rw[List.length_cons,Nat.add_mul]
  show szN k+szL ks≤_
  omega
theorem rightN_parts {l:List At}(h:rightN l=true):l.length≤8∧∀a∈l,objB a.oid=true:=by
 unfold rightN at h
 rw[Bool.and_eq_true,decide_eq_true_eq,List.all_eq_true] at h
 refine⟨h.1,fun a ha=>?_⟩
 have:=h.2 a ha
 unfold attrOK at this
 rw[Bool.and_eq_true,Bool.and_eq_true] at this
 exact this.1.1
theorem SG.on {W0 W W':World}{ns:List Nd}{v:Value}(h:SG W0 ns v W)(hb:Below W.heap.size W W'):SG W0 ns v W':=⟨below_then h.bel hb (lr_ _),h.row.below (fun g hg=>hg) hb⟩
theorem one_nd {S:Nat→Prop}{W:World}{g:Nat}{a:Nd}{a0 a1 a2:Value}{T:TypeId}{fr:Nat × Nat}(hp:W.heap[g]? =some (.cells #[a0,a1,a2] T fr))(hg:S g)(ha:NdC S W a a0 a1 a2):Lst ndE S W (some ⟨g,0,none⟩) [a]:=fun _=>⟨g,0,rfl,(Array.getElem?_eq_some_iff.1 hp).1,hg,fun i hi=>by
 match i,hi with
 |0,_=>exact⟨[a0,a1,a2],fun j u hu=>by
  rw[ch_ hp]
  match j,hu with
  |0,hu=>exact hu
  |1,hu=>exact hu
  |2,hu=>exact hu
  |j+3,hu=>simp at hu,_,_,_,rfl,ha⟩⟩
theorem rbodyC_any (B:Nat→Prop)(c:Ce)(c0 c1 c2 c3 c4 c5 x0 x1 x2 x3 x4 x5 x6 x7 x8 c6:Value)(w:World)(hx:CeC B w c c0 c1 c2 c3 c4 c5 x0 x1 x2 x3 x4 x5 x6 x7 x8 c6)(hT:Tabs w)(hr:rightC c=true):
 Calls Tryz.prog 16 #[.agg #[c0,c1,c2,c3,c4,c5,x0,x1,x2,x3,x4,x5,x6,x7,x8,c6]] w (NVal (fun g=>w.heap.size≤g) w (bodyC c)):=by
 have mixed:Tryz.prog.follows Departure.mixedOrders=true:=by kernel_rfl
 obtain⟨a0,A1,l1,i1,a2,a3,A4,l4,i4,a5,q0,q1,q2,q3,B4,m4,j4,B5,m5,j5,B6,m6,j6,B7,m7,j7,B8,m8,j8,a7,rfl,rfl,rfl,rfl,rfl,rfl,rfl,rfl,rfl,rfl,rfl,rfl,rfl,rfl,rfl,rfl⟩:=ceC_shape hx
 obtain⟨W0,hW0⟩:=nm_ ((w.alloc (.cells #[.int .i64 a0,.slice A1 l1 i1,.int .i64 a2,.int .i64 a3,.slice A4 l4 i4,.int .i64 a5,.bool q0,.bool q1,.int .i64 q2,.int .u16 q3,.slice B4 m4 j4,.slice B5 m5 j5,.slice B6 m6 j6,.slice B7 m7 j7,.slice B8 m8 j8,.int .i64 a7] 32)).alloc (.cells #[.int .u8 0,.slice none 0 0,.slice none 0 0] 43))
 have hb0:Below w.heap.size w W0:=by rw[←hW0];exact(below_new _ _).alloc (by simp) _
 have hz0:W0.heap.size=w.heap.size+2:=by rw[←hW0];simp
 have p0:W0.heap[w.heap.size]? =some (.cells #[.int .i64 a0,.slice A1 l1 i1,.int .i64 a2,.int .i64 a3,.slice A4 l4 i4,.int .i64 a5,.bool q0,.bool q1,.int .i64 q2,.int .u16 q3,.slice B4 m4 j4,.slice B5 m5 j5,.slice B6 m6 j6,.slice B7 m7 j7,.slice B8 m8 j8,.int .i64 a7] 32):=by rw[←hW0,heap_old_ _ _ (by simp)];exact heap_new_ _ _
 have p1:W0.heap[w.heap.size+1]? =some (.cells #[.int .u8 0,.slice none 0 0,.slice none 0 0] 43):=by rw[←hW0];exact heap_is (by simp)
 obtain⟨r0,r1,r2,r3,r4,r5,r6,_⟩:=rightC_parts hr
 have hL1:=ls4 hx.iss
 have hL4:=ls4 hx.sub
 have hp1:=rightN_parts r1
 have hp4:=rightN_parts r4
 have h0:a0=c.ser:=by have:=hx.ser.1;simpa using this
 have h2:a2=c.frm:=by have:=hx.frm.1;simpa using this
 have h3:a3=c.til:=by have:=hx.til.1;simpa using this
 have h5:a5=c.key:=by have:=hx.key.1;simpa using this
 have HN1:=hd_ (fun(W:World)=>(show Calls Tryz.prog 34 #[.int .i64 a0] W (NVal (fun g=>W.heap.size≤g) W (numN c.ser)) by rw[h0];exact rint_any c.ser W (by unfold I64;omega)))
 have HN2:=hd_ (fun(W:World) (hW:Below W0.heap.size W0 W)=>rnode_any _ A1 l1 i1 c.iss W hL1.1 (hL1.2.2.2.below (below_then hb0 hW (lr_ _))) hL1.2.1 hL1.2.2.1 (by rw[←hL1.1];omega) hp1.2)
 have HN3:=hd_ (fun(W:World)=>(show Calls Tryz.prog 36 #[.int .i64 a2] W (NVal (fun g=>W.heap.size≤g) W (timeNd c.frm)) by rw[h2];exact rtimeC_any c.frm W r2))
 have HN4:=hd_ (fun(W:World)=>(show Calls Tryz.prog 36 #[.int .i64 a3] W (NVal (fun g=>W.heap.size≤g) W (timeNd c.til)) by rw[h3];exact rtimeC_any c.til W r3))
 have HN6:=hd_ (fun(W:World) (hW:Below W0.heap.size W0 W)=>rnode_any _ A4 l4 i4 c.sub W hL4.1 (hL4.2.2.2.below (below_then hb0 hW (lr_ _))) hL4.2.1 hL4.2.2.1 (by rw[←hL4.1];omega) hp4.2)
 have HN7:=hd_ (fun(W:World)=>(show Calls Tryz.prog 17 #[.int .i64 a5] W (NVal (fun g=>W.heap.size≤g) W (hNd c.key)) by rw[h5];exact rhandleC_any c.key W r5))
 have HNX:=hd_ (fun(W:World) (hW:Below W0.heap.size W0 W)=>rnodeX_any _ c.ex _ _ _ _ _ _ _ _ _ W (hx.below (below_then hb0 hW (lr_ _))).ex r6 (hT.below (below_then hb0 hW (lr_ _))))
 have HP:=hd_ (fun W (hW:Below W0.heap.size W0 W)=>box16 ((hW.block _ (Array.getElem?_eq_some_iff.1 p0).1).trans p0))
 have HR:=hd_ (fun W (hW:Below W0.heap.size W0 W)=>(hW.block _ (Array.getElem?_eq_some_iff.1 p1).1).trans p1)
 have HB:=hd_ (ai_ hb0 hz0)
 have HSS:=hd_ (fun(X:World) (h:Below W0.heap.size W0 X)=>(show X.cell? ⟨w.heap.size,0,none⟩=some (.int .i64 a0)∧X.cell? ⟨w.heap.size,1,none⟩=some (.slice A1 l1 i1)∧X.cell? ⟨w.heap.size,2,none⟩=some (.int .i64 a2)∧X.cell? ⟨w.heap.size,3,none⟩=some (.int .i64 a3)∧X.cell? ⟨w.heap.size,4,none⟩=some (.slice A4 l4 i4)∧X.cell? ⟨w.heap.size,5,none⟩=some (.int .i64 a5) from(HP.out X h).1))
 clear hx p0 p1 r0 r1 r2 r3 r4 r5 r6 hL1 hL4 hp1 hp4 h0 h2 h3 h5 hb0 hz0 hr hT
 go_enter Tryz.func16,Tryz.ntmps16
 go_upto_region 1 with fail
 try dsimp only
 refine wp_region_noPanic ?_
 refine rh_ mixed (S:=fun X:World=>X.cell? ⟨w.heap.size,0,none⟩=some (.int .i64 a0)∧X.cell? ⟨w.heap.size,1,none⟩=some (.slice A1 l1 i1)∧X.cell? ⟨w.heap.size,2,none⟩=some (.int .i64 a2)∧X.cell? ⟨w.heap.size,3,none⟩=some (.int .i64 a3)∧X.cell? ⟨w.heap.size,4,none⟩=some (.slice A4 l4 i4)∧X.cell? ⟨w.heap.size,5,none⟩=some (.int .i64 a5)) (K:=fun X=>Below W0.heap.size W0 X) (fun X h=>HSS.out X h) (below_drew W0) (fun hHeld=>?_)
 have hbd:=below_drew W0
 obtain⟨wd,hwd⟩:=nm_ (W0.drew)
 rw[hwd] at hHeld hbd⊢
 have H0:=hd_ hbd
 clear hwd hbd
 refine tk_ (i:=0) (z:=?_)
 refine tk_ (i:=3) (z:=?_)
 refine tk_ (i:=6) (z:=?_)
 refine tk_ (i:=9) (z:=?_)
 refine tk_ (i:=14) (z:=?_)
 refine tk_ (i:=17) (z:=?_)
 refine tk_ (i:=1) (z:=?_)
 refine tk_ (i:=4) (z:=?_)
 refine tk_ (i:=7) (z:=?_)
 refine tk_ (i:=10) (z:=?_)
 refine tk_ (i:=15) (z:=?_)
 refine tk_ (i:=18) (z:=?_)
 refine on_ (i:=2) (z:=fun KK hKK=>?_)
 go_simp
 refine(HN1.out wd).mono ?_
 rintro e w1 ⟨hb1,t1,D1,d1,g1,K1,k1,u1,rfl,hn1⟩
 dsimp only
 have hbz:=below_then H0.out hb1 (lr_ _)
 refine hKK.out _ _ (HSS.out _ hbz) (fun hHeld=>?_)
 clear hKK KK
 try simp only[Act.put,qa_,qb_,qc_]
 have H1:=hd_ (ai_ hb1 (ai_ hbz hn1))
 clear hb1 hbz hn1
 refine on_ (i:=5) (z:=fun KK hKK=>?_)
 go_simp
 refine(HN2.out w1 H1.out.2.1).mono ?_
 rintro e w2 ⟨hb2,t2,D2,d2,g2,K2,k2,u2,rfl,hn2⟩
 dsimp only
 have hbz:=below_then H1.out.2.1 hb2 (lr_ _)
 refine hKK.out _ _ (HSS.out _ hbz) (fun hHeld=>?_)
 clear hKK KK
 try simp only[Act.put,qa_,qb_,qc_]
 have H2:=hd_ (ai_ hb2 (ai_ hbz hn2))
 clear hb2 hbz hn2
 refine on_ (i:=8) (z:=fun KK hKK=>?_)
 go_simp
 refine(HN3.out w2).mono ?_
 rintro e w3 ⟨hb3,t3,D3,d3,g3,K3,k3,u3,rfl,hn3⟩
 dsimp only
 have hbz:=below_then H2.out.2.1 hb3 (lr_ _)
 refine hKK.out _ _ (HSS.out _ hbz) (fun hHeld=>?_)
 clear hKK KK
 try simp only[Act.put,qa_,qb_,qc_]
 have H3:=hd_ (ai_ hb3 (ai_ hbz hn3))
 clear hb3 hbz hn3
 refine on_ (i:=11) (z:=fun KK hKK=>?_)
 go_simp
 refine(HN4.out w3).mono ?_
 rintro e w4 ⟨hb4,t4,D4,d4,g4,K4,k4,u4,rfl,hn4⟩
 dsimp only
 have hbz:=below_then H3.out.2.1 hb4 (lr_ _)
 refine hKK.out _ _ (HSS.out _ hbz) (fun hHeld=>?_)
 clear hKK KK
 try simp only[Act.put,qa_,qb_,qc_]
 have H4:=hd_ (ai_ hb4 (ai_ hbz hn4))
 clear hb4 hbz hn4
 refine on_ (i:=12) (z:=fun KK hKK=>?_)
 go_simp
 have hbn:=below_new w4 (.cells #[.int .u8 t3,.slice D3 d3 g3,.slice K3 k3 u3,.int .u8 t4,.slice D4 d4 g4,.slice K4 k4 u4] 43)
 have hqn:=heap_new_ w4 (.cells #[.int .u8 t3,.slice D3 d3 g3,.slice K3 k3 u3,.int .u8 t4,.slice D4 d4 g4,.slice K4 k4 u4] 43)
 obtain⟨wn,hwn⟩:=nm_ (w4.alloc (.cells #[.int .u8 t3,.slice D3 d3 g3,.slice K3 k3 u3,.int .u8 t4,.slice D4 d4 g4,.slice K4 k4 u4] 43))
 rw[hwn] at hbn hqn⊢
 have hbz:=below_then H4.out.2.1 hbn (lr_ _)
 refine hKK.out _ _ (HSS.out _ hbz) (fun hHeld=>?_)
 clear hKK KK
 try simp only[Act.put,qa_,qb_,qc_]
 have hw20:=H2.out.2.1.size
 have hw30:=H3.out.1.size
 have hw40:=H4.out.1.size
 have n3:=NdC.mono (B':=fun g=>W0.heap.size≤g) (fun g (hg:w2.heap.size≤g)=>by omega) _ _ _ _ (NdC.below hbn _ _ _ _ (NdC.below H4.out.1 _ _ _ _ H3.out.2.2))
 have n4:=NdC.mono (B':=fun g=>W0.heap.size≤g) (fun g (hg:w3.heap.size≤g)=>by omega) _ _ _ _ (NdC.below hbn _ _ _ _ H4.out.2.2)
 have hS5:=rseq_any (fun g=>W0.heap.size≤g) 48 (some ⟨w4.heap.size,0,none⟩) 2 2 [timeNd c.frm,timeNd c.til] wn (by omega) rfl (lr_ _) (by decide) (two_nodes hqn (by omega) n3 n4)
 have HN:=hd_ (ai_ hbn hbz)
 have HC5:=hd_ hS5
 clear hS5 n3 n4 hbz hqn hbn hwn hw20 hw30 hw40
 refine on_ (i:=13) (z:=fun KK hKK=>?_)
 go_simp
 refine(HC5.out).mono ?_
 rintro e w5 ⟨hb5,t5,D5,d5,g5,K5,k5,u5,rfl,hn5⟩
 dsimp only
 have hbz:=below_then HN.out.2 hb5 (lr_ _)
 refine hKK.out _ _ (HSS.out _ hbz) (fun hHeld=>?_)
 clear hKK KK
 try simp only[Act.put,qa_,qb_,qc_]
 have H5:=hd_ (ai_ hb5 (ai_ hbz hn5))
 clear hb5 hbz hn5
 refine on_ (i:=16) (z:=fun KK hKK=>?_)
 go_simp
 refine(HN6.out w5 H5.out.2.1).mono ?_
 rintro e w6 ⟨hb6,t6,D6,d6,g6,K6,k6,u6,rfl,hn6⟩
 dsimp only
 have hbz:=below_then H5.out.2.1 hb6 (lr_ _)
 refine hKK.out _ _ (HSS.out _ hbz) (fun hHeld=>?_)
 clear hKK KK
 try simp only[Act.put,qa_,qb_,qc_]
 have H6:=hd_ (ai_ hb6 (ai_ hbz hn6))
 clear hb6 hbz hn6
 refine on_ (i:=19) (z:=fun KK hKK=>?_)
 go_simp
 refine(HN7.out w6).mono ?_
 rintro e w7 ⟨hb7,t7,D7,d7,g7,K7,k7,u7,rfl,hn7⟩
 dsimp only
 have hbz:=below_then H6.out.2.1 hb7 (lr_ _)
 refine hKK.out _ _ (HSS.out _ hbz) (fun hHeld=>?_)
 clear hKK KK
 try simp only[Act.put,qa_,qb_,qc_]
 have H7:=hd_ (ai_ hb7 (ai_ hbz hn7))
 clear hb7 hbz hn7
 refine on_ (i:=20) (z:=fun KK hKK=>?_)
 go_simp
 have hbn:=below_new w7 (.cells #[.int .u8 t1,.slice D1 d1 g1,.slice K1 k1 u1,.int .u8 t2,.slice D2 d2 g2,.slice K2 k2 u2,.int .u8 t5,.slice D5 d5 g5,.slice K5 k5 u5,.int .u8 t6,.slice D6 d6 g6,.slice K6 k6 u6,.int .u8 t7,.slice D7 d7 g7,.slice K7 k7 u7] 43)
 have hqn:=heap_new_ w7 (.cells #[.int .u8 t1,.slice D1 d1 g1,.slice K1 k1 u1,.int .u8 t2,.slice D2 d2 g2,.slice K2 k2 u2,.int .u8 t5,.slice D5 d5 g5,.slice K5 k5 u5,.int .u8 t6,.slice D6 d6 g6,.slice K6 k6 u6,.int .u8 t7,.slice D7 d7 g7,.slice K7 k7 u7] 43)
 obtain⟨wr,hwr⟩:=nm_ (w7.alloc (.cells #[.int .u8 t1,.slice D1 d1 g1,.slice K1 k1 u1,.int .u8 t2,.slice D2 d2 g2,.slice K2 k2 u2,.int .u8 t5,.slice D5 d5 g5,.slice K5 k5 u5,.int .u8 t6,.slice D6 d6 g6,.slice K6 k6 u6,.int .u8 t7,.slice D7 d7 g7,.slice K7 k7 u7] 43))
 rw[hwr] at hbn hqn⊢
 have hbz:=below_then H7.out.2.1 hbn (lr_ _)
 refine hKK.out _ _ (HSS.out _ hbz) (fun hHeld=>?_)
 clear hKK KK
 try simp only[Act.put,qa_,qb_,qc_]
 have hwd0:=H0.out.size
 have hw10:=H1.out.2.1.size
 have hw50:=H5.out.2.1.size
 have hw60:=H6.out.2.1.size
 have hw70:=H7.out.2.1.size
 have n1:=NdC.mono (B':=fun g=>W0.heap.size≤g) (fun g (hg:wd.heap.size≤g)=>by omega) _ _ _ _ (NdC.below H7.out.1 _ _ _ _ (NdC.below H6.out.1 _ _ _ _ (NdC.below H5.out.1 _ _ _ _ (NdC.below HN.out.1 _ _ _ _ (NdC.below H4.out.1 _ _ _ _ (NdC.below H3.out.1 _ _ _ _ (NdC.below H2.out.1 _ _ _ _ H1.out.2.2)))))))
 have n2:=NdC.mono (B':=fun g=>W0.heap.size≤g) (fun g (hg:w1.heap.size≤g)=>by omega) _ _ _ _ (NdC.below H7.out.1 _ _ _ _ (NdC.below H6.out.1 _ _ _ _ (NdC.below H5.out.1 _ _ _ _ (NdC.below HN.out.1 _ _ _ _ (NdC.below H4.out.1 _ _ _ _ (NdC.below H3.out.1 _ _ _ _ H2.out.2.2))))))
 have n5:=NdC.mono (B':=fun g=>W0.heap.size≤g) (fun g (hg:W0.heap.size≤g)=>by omega) _ _ _ _ (NdC.below H7.out.1 _ _ _ _ (NdC.below H6.out.1 _ _ _ _ H5.out.2.2))
 have n6:=NdC.mono (B':=fun g=>W0.heap.size≤g) (fun g (hg:w5.heap.size≤g)=>by omega) _ _ _ _ (NdC.below H7.out.1 _ _ _ _ H6.out.2.2)
 have n7:=NdC.mono (B':=fun g=>W0.heap.size≤g) (fun g (hg:w6.heap.size≤g)=>by omega) _ _ _ _ H7.out.2.2
 have HG:=hd_ (five_row hw70 n1 n2 n5 n6 n7 hbz hbn (lr_ _) hqn)
 clear hbz hbn hqn hwr hwd0 hw10 hw50 hw60 hw70 n1 n2 n5 n6 n7
 refine tk_ (i:=21) (z:=?_)
 refine wpAnyH_done (by kernel_rfl) ?_ _
 refine NoPanic.normal ?_
 clear hHeld H0 H1 H2 H3 H4 H5 H6 H7 HN HC5 HN1 HN2 HN3 HN4 HN6 HN7
 obtain⟨f0,f1,f2,f3,f4,f5,f6,f7,f8⟩:=(HP.out wr HG.out.bel).2.1
 have HC:=hd_ (HNX.out wr HG.out.bel)
 go_wp2_with fail
 clear f0 f1 f2 f3 f4 f5 f6 f7 f8
 refine HC.out.mono ?_
 rintro e w8 ⟨hb8,t8,D8,d8,g8,K8,k8,u8,rfl,hn8⟩
 have hlk:=nd_len' hn8
 have HX:=hd_ (ai_ hb8 hn8)
 have HL:=hd_ hlk
 clear hb8 hn8 HC HNX hlk
 by_cases hk0:k8=0
 ·subst hk0
  have hM:moreL c.ex=[]:=by unfold moreL;rw[if_pos HL.out.symm]
  have hBC:bodyC c=.mk 48 [] [numN c.ser,nameN c.iss,.mk 48 [] [timeNd c.frm,timeNd c.til],nameN c.sub,hNd c.key]:=by unfold bodyC;rw[hM];rfl
  have HBC:=hd_ hBC
  have hbx:=below_new w8 (.cells #[.int .u8 t8,.slice D8 d8 g8,.slice K8 0 u8] 43)
  have v2:=(ch_ (heap_new_ w8 (.cells #[.int .u8 t8,.slice D8 d8 g8,.slice K8 0 u8] 43)) 2).trans rfl
  have HV:=hd_ (ai_ hbx (SG.on HG.out (below_then HX.out.1 hbx (lr_ _))))
  clear hbx hM hBC
  have hG:=HV.out.2
  obtain⟨_,_,e6,hv1,hv2,hL⟩:=hG.row.lst (fun g hg=>hg)
  simp only[Value.slice.injEq] at e6
  obtain⟨eA,eN,eC⟩:=e6
  subst eA eC
  have hS9:=rseq_any _ 48 _ _ _ _ (w8.alloc (.cells #[.int .u8 t8,.slice D8 d8 g8,.slice K8 0 u8] 43)) (by omega) rfl (show 5≤_ from hv1) hv2 hL
  have HC9:=hd_ hS9
  have HBW:=hd_ HV.out.2.bel
  clear hS9 hL hG eN hv1 hv2
  go_wp2_with fail
  refine HC9.out.mono ?_
  rintro e wb ⟨hbb,t9,D9,d9,g9,K9,k9,u9,rfl,hn9⟩
  have hbz:=below_then HBW.out hbb (lr_ _)
  have p1:=HR.out wb hbz
  have hBw:=below_then HB.out.1 hbz (lr_ _)
  have hz0:=HB.out.2
  obtain⟨⟨f0,f1,f2⟩,s0,s1,s2⟩:=st3 p1
  obtain⟨r0,r1,r2,hB⟩:=res3 (y0:=.int .u8 t9) (y1:=.slice D9 d9 g9) (y2:=.slice K9 k9 u9) (show w.heap.size≤w.heap.size+1 by omega) hBw p1
  have hn6:=res3_nd (b:=w.heap.size+1) (y0:=.int .u8 t9) (y1:=.slice D9 d9 g9) (y2:=.slice K9 k9 u9) (fun g (hg:W0.heap.size≤g)=>by omega) hn9
  have HE:=hd_ (ai_ hB (NdC.mono (B':=fun g=>w.heap.size≤g) (fun g (hg:W0.heap.size≤g)=>by omega) _ _ _ _ hn6))
  clear hB hn9 hn6 p1 hBw hbb hbz HC9 HBW hz0
  go_wp2_with fail
  refine bodyPost_ret (v:=.agg #[.int .u8 t9,.slice D9 d9 g9,.slice K9 k9 u9]) ?_ rfl ⟨HE.out.1,_,_,_,_,_,_,_,rfl,?_⟩
  ·simp[results,Tryz.results16,go_sem,r0,r1,r2]
  ·rw[HBC.out];exact HE.out.2
 ·have hM:moreL c.ex=[.mk 163 [] [nodeX c.ex]]:=by unfold moreL;rw[if_neg (by rw[←HL.out];exact hk0)]
  have hBC:bodyC c=.mk 48 [] ([numN c.ser,nameN c.iss,.mk 48 [] [timeNd c.frm,timeNd c.til],nameN c.sub,hNd c.key]++[.mk 163 [] [nodeX c.ex]]):=by unfold bodyC;rw[hM]
  have HBC:=hd_ hBC
  have hgt:(0:Int)< (k8:Int):=by omega
  have hqx:=heap_new_ w8 (.cells #[.int .u8 t8,.slice D8 d8 g8,.slice K8 k8 u8] 43)
  have hbx:=below_new w8 (.cells #[.int .u8 t8,.slice D8 d8 g8,.slice K8 k8 u8] 43)
  obtain⟨⟨_,_,_⟩,v0,v1,v2⟩:=st3 hqx
  have hbn:=below_new (w8.alloc (.cells #[.int .u8 t8,.slice D8 d8 g8,.slice K8 k8 u8] 43)) (.cells #[.int .u8 t8,.slice D8 d8 g8,.slice K8 k8 u8] 43)
  have hqn:=heap_new_ (w8.alloc (.cells #[.int .u8 t8,.slice D8 d8 g8,.slice K8 k8 u8] 43)) (.cells #[.int .u8 t8,.slice D8 d8 g8,.slice K8 k8 u8] 43)
  have hS:=rseq_any (fun g=>wr.heap.size≤g) 163 (some ⟨(w8.alloc (.cells #[.int .u8 t8,.slice D8 d8 g8,.slice K8 k8 u8] 43)).heap.size,0,none⟩) 1 1 [nodeX c.ex] ((w8.alloc (.cells #[.int .u8 t8,.slice D8 d8 g8,.slice K8 k8 u8] 43)).alloc (.cells #[.int .u8 t8,.slice D8 d8 g8,.slice K8 k8 u8] 43)) (by omega) rfl (lr_ _) (by decide) (one_nd hqn (show wr.heap.size≤_ by have:=HX.out.1.size;simp;omega) (NdC.below hbn _ _ _ _ (NdC.below hbx _ _ _ _ HX.out.2)))
  rw[show(w8.alloc (.cells #[.int .u8 t8,.slice D8 d8 g8,.slice K8 k8 u8] 43)).heap.size=w8.heap.size+1 by simp] at hS
  have HCS:=hd_ hS
  have HY:=hd_ (below_then HX.out.1 (below_then hbx hbn (lr_ _)) (lr_ _))
  clear hqx hbx hbn hqn hS hM hBC
  go_wp2_with fail
  refine HCS.out.mono ?_
  rintro e w9 ⟨hb9,t0,D0,d0,g0,K0,k0,u0,rfl,hn0⟩
  obtain⟨A7,c7,w7',hrun,hG7⟩:=HG.out.push (below_then HY.out hb9 (lr_ _)) hn0 (show 5≤1000 by omega)
  have HG7:=hd_ hG7
  clear hG7 hn0 hb9 HCS HY v0 v1 v2
  go_wp2_with (at_builtin;refine wpl_append rfl (.tmp 33) (.tmp 37) 41 rfl _ _ _ rfl rfl hrun ?_)
  clear hrun
  have hG:=HG7.out
  obtain⟨_,_,e6,hv1,hv2,hL⟩:=hG.row.lst (fun g hg=>hg)
  simp only[Value.slice.injEq] at e6
  obtain⟨eA,eN,eC⟩:=e6
  subst eA eC
  have hS9:=rseq_any _ 48 _ _ _ _ w7' (by omega) rfl (show 6≤_ from hv1) hv2 hL
  have HC9:=hd_ hS9
  have HBW:=hd_ HG7.out.bel
  clear hS9 hL hG eN hv1 hv2
  go_wp2_with fail
  refine HC9.out.mono ?_
  rintro e wb ⟨hbb,t9,D9,d9,g9,K9,k9,u9,rfl,hn9⟩
  have hbz:=below_then HBW.out hbb (lr_ _)
  have p1:=HR.out wb hbz
  have hBw:=below_then HB.out.1 hbz (lr_ _)
  have hz0:=HB.out.2
  obtain⟨⟨f0,f1,f2⟩,s0,s1,s2⟩:=st3 p1
  obtain⟨r0,r1,r2,hB⟩:=res3 (y0:=.int .u8 t9) (y1:=.slice D9 d9 g9) (y2:=.slice K9 k9 u9) (show w.heap.size≤w.heap.size+1 by omega) hBw p1
  have hn6:=res3_nd (b:=w.heap.size+1) (y0:=.int .u8 t9) (y1:=.slice D9 d9 g9) (y2:=.slice K9 k9 u9) (fun g (hg:W0.heap.size≤g)=>by omega) hn9
  have HE:=hd_ (ai_ hB (NdC.mono (B':=fun g=>w.heap.size≤g) (fun g (hg:W0.heap.size≤g)=>by omega) _ _ _ _ hn6))
  clear hB hn9 hn6 p1 hBw hbb hbz HC9 HBW hz0
  go_wp2_with fail
  refine bodyPost_ret (v:=.agg #[.int .u8 t9,.slice D9 d9 g9,.slice K9 k9 u9]) ?_ rfl ⟨HE.out.1,_,_,_,_,_,_,_,rfl,?_⟩
  ·simp[results,Tryz.results16,go_sem,r0,r1,r2]
  ·rw[HBC.out];exact HE.out.2
end Go.Proofs.YtkjkhoglkpepiaaGreatDoor.nmc
