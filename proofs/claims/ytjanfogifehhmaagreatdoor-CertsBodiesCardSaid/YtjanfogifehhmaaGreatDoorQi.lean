/- The document's Same of two certificates told alike. -/
import Derived.Test.YtjanfogifehhmaaGreatDoorQd
import Derived.Test.YtjanfogifehhmaaGreatDoorBs
set_option maxRecDepth 100000
set_option maxHeartbeats 16000000
set_option linter.unusedVariables false
set_option linter.unusedSimpArgs false
namespace Go.Proofs.YtjanfogifehhmaaGreatDoor.nmc
open Go.RowKit tlvc tlvd ndc txc txm intc intm vtc
theorem rsameC_self (B B':Nat→Prop)(c:Ce)(c0 c1 c2 c3 c4 c5 x0 x1 x2 x3 x4 x5 x6 x7 x8 c6 dc0 dc1 dc2 dc3 dc4 dc5 dx0 dx1 dx2 dx3 dx4 dx5 dx6 dx7 dx8 dc6:Value)(w:World)(hx:CeC B w c c0 c1 c2 c3 c4 c5 x0 x1 x2 x3 x4 x5 x6 x7 x8 c6)(hy:CeC B' w c dc0 dc1 dc2 dc3 dc4 dc5 dx0 dx1 dx2 dx3 dx4 dx5 dx6 dx7 dx8 dc6):
 Calls Tryz.prog 16 #[.agg #[c0,c1,c2,c3,c4,c5,x0,x1,x2,x3,x4,x5,x6,x7,x8,c6],.agg #[dc0,dc1,dc2,dc3,dc4,dc5,dx0,dx1,dx2,dx3,dx4,dx5,dx6,dx7,dx8,dc6]] w fun e w'=>e=.returned (.bool true)∧Below w.heap.size w w':=by
 obtain⟨W0,hW0⟩:=nm_ ((w.alloc (.cells #[c0,c1,c2,c3,c4,c5,x0,x1,x2,x3,x4,x5,x6,x7,x8,c6] 32)).alloc (.cells #[dc0,dc1,dc2,dc3,dc4,dc5,dx0,dx1,dx2,dx3,dx4,dx5,dx6,dx7,dx8,dc6] 32))
 have hb0:Below w.heap.size w W0:=by rw[←hW0];exact(below_new _ _).alloc (by simp) _
 have v1:W0.heap[w.heap.size]? =some (.cells #[c0,c1,c2,c3,c4,c5,x0,x1,x2,x3,x4,x5,x6,x7,x8,c6] 32):=by rw[←hW0,heap_old_ _ _ (by simp)];exact heap_new_ _ _
 have v2:W0.heap[w.heap.size+1]? =some (.cells #[dc0,dc1,dc2,dc3,dc4,dc5,dx0,dx1,dx2,dx3,dx4,dx5,dx6,dx7,dx8,dc6] 32):=by rw[←hW0];exact heap_is (by simp)
 have hbk:=fun(W:World) (hW:Below W0.heap.size W0 W)=>(hW.block _ (Array.getElem?_eq_some_iff.1 v1).1).trans v1
 have hbl:=fun(W:World) (hW:Below W0.heap.size W0 W)=>(hW.block _ (Array.getElem?_eq_some_iff.1 v2).1).trans v2
 obtain⟨a0,A1,l1,i1,a2,a3,A4,l4,i4,a5,q0,q1,q2,q3,B4,m4,j4,B5,m5,j5,B6,m6,j6,B7,m7,j7,B8,m8,j8,a7,rfl,rfl,rfl,rfl,rfl,rfl,rfl,rfl,rfl,rfl,rfl,rfl,rfl,rfl,rfl,rfl⟩:=ceC_shape hx
 obtain⟨b0,E1,e1,h1,b2,b3,E4,e4,h4,b5,p0,p1,p2,p3,F4,n4,k4,F5,n5,k5,F6,n6,k6,F7,n7,k7,F8,n8,k8,b7,rfl,rfl,rfl,rfl,rfl,rfl,rfl,rfl,rfl,rfl,rfl,rfl,rfl,rfl,rfl,rfl⟩:=ceC_shape hy
 obtain rfl:a0=b0:=by have h1:=hx.ser.1;have h2:=hy.ser.1;simp only[Value.int.injEq,true_and] at h1 h2;rw[h1,h2]
 obtain rfl:a2=b2:=by have h1:=hx.frm.1;have h2:=hy.frm.1;simp only[Value.int.injEq,true_and] at h1 h2;rw[h1,h2]
 obtain rfl:a3=b3:=by have h1:=hx.til.1;have h2:=hy.til.1;simp only[Value.int.injEq,true_and] at h1 h2;rw[h1,h2]
 obtain rfl:a5=b5:=by have h1:=hx.key.1;have h2:=hy.key.1;simp only[Value.int.injEq,true_and] at h1 h2;rw[h1,h2]
 obtain rfl:a7=b7:=by have h1:=hx.sig.1;have h2:=hy.sig.1;simp only[Value.int.injEq,true_and] at h1 h2;rw[h1,h2]
 obtain⟨g1,g2,g3,g4⟩:=ls4 hx.iss
 obtain⟨g5,g6,g7,g8⟩:=ls4 hy.iss
 obtain⟨o1,o2,o3,o4⟩:=ls4 hx.sub
 obtain⟨o5,o6,o7,o8⟩:=ls4 hy.sub
 obtain rfl:l1=e1:=g1.symm.trans g5
 obtain rfl:l4=e4:=o1.symm.trans o5
 have HC1:=hd_ (ralike_self _ _ A1 E1 l1 i1 h1 c.iss W0 g1 (g4.below hb0) (g8.below hb0) g2 g3 g6 g7)
 have HC2:=hd_ (fun(W:World) (hW:Below W0.heap.size W0 W)=>ralike_self _ _ A4 E4 l4 i4 h4 c.sub W o1 (o4.below (below_then hb0 hW (lr_ _))) (o8.below (below_then hb0 hW (lr_ _))) o2 o3 o6 o7)
 have HC3:=hd_ (fun(W:World) (hW:Below W0.heap.size W0 W)=>rsameX_self _ _ c.ex _ _ _ _ _ _ _ _ _ _ _ _ _ _ _ _ _ _ W (hx.ex.below (below_then hb0 hW (lr_ _))) (hy.ex.below (below_then hb0 hW (lr_ _))))
 have HV:=hd_ (ai_ hbk hbl)
 have HB:=hd_ hb0
 have s1:=(box16 v1).1.2.1
 have t1:=(box16 v2).1.2.1
 clear hbk hbl v1 v2 hb0 hx hy g1 g2 g3 g4 g5 g6 g7 g8 o1 o2 o3 o4 o5 o6 o7 o8
 go_enter Tryz.func16,Tryz.ntmps16
 go_wp2_with fail
 clear s1 t1
 refine HC1.out.mono ?_
 rintro e w1 ⟨rfl,hb1⟩
 have s4:=(box16 (HV.out.1 w1 hb1)).1.2.2.2.2.1
 have t4:=(box16 (HV.out.2 w1 hb1)).1.2.2.2.2.1
 have HD:=hd_ (HC2.out w1 hb1)
 have HB1:=hd_ hb1
 clear hb1 HC1 HC2
 go_wp2_with fail
 clear s4 t4
 refine HD.out.mono ?_
 rintro e w2 ⟨rfl,hb2⟩
 have hb2:=below_then HB1.out hb2 (lr_ _)
 obtain⟨⟨s0,s1,s2,s3,s4,s5⟩,⟨s6,s7,s8,s9,s10,s11,s12,s13,s14⟩,s15⟩:=box16 (HV.out.1 w2 hb2)
 obtain⟨⟨t0,t1,t2,t3,t4,t5⟩,⟨t6,t7,t8,t9,t10,t11,t12,t13,t14⟩,t15⟩:=box16 (HV.out.2 w2 hb2)
 have HD:=hd_ (HC3.out w2 hb2)
 have HB2:=hd_ hb2
 clear hb2 HB1 HC3 HV
 go_wp2_with fail
 refine HD.out.mono ?_
 rintro e w3 ⟨rfl,hb3⟩
 have HE:=hd_ (below_then HB.out (below_then HB2.out hb3 (lr_ _)) (lr_ _))
 clear hb3 HD HB HB2
 go_wp2
 go_ret
 exact⟨rfl,HE.out⟩
end Go.Proofs.YtjanfogifehhmaaGreatDoor.nmc
