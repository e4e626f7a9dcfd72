/- What stands behind a certificate's key: extensions, or none. -/
import Derived.Test.YtjanfogifehhmaaGreatDoorQe
import Derived.Test.YtjanfogifehhmaaGreatDoorAt
set_option maxRecDepth 100000
set_option maxHeartbeats 1600000
set_option linter.unusedVariables false
set_option linter.unusedSimpArgs false
namespace Go.Proofs.YtjanfogifehhmaaGreatDoor.nmc
open Go.RowKit tlvc tlvd ndc txc txm intc intm vtc
def XO (w:World)(r:Option Ex)(e:Ending)(w':World):Prop:=
 Below w.heap.size w w'∧∃x c0 c1 c2 c3 c4 c5 c6 c7 c8 er,e=.returned (.tuple #[.agg #[c0,c1,c2,c3,c4,c5,c6,c7,c8],.int .i64 er])∧ExC (fun g=>w.heap.size≤g) w' x c0 c1 c2 c3 c4 c5 c6 c7 c8∧match r with
 |none=>er≠0
 |some y=>er=0∧x=y
theorem xo_get {w w':World}{r:Option Ex}{e:Ending}(h:XGet w r e w'):XO w r e w':=by
 obtain⟨hb,h⟩:=h
 cases r with
 |none=>obtain rfl:=h;exact⟨hb,ex0,_,_,_,_,_,_,_,_,_,_,rfl,ex0_cells _ _,by decide⟩
 |some x=>obtain⟨c0,c1,c2,c3,c4,c5,c6,c7,c8,rfl,hx⟩:=h;exact⟨hb,x,_,_,_,_,_,_,_,_,_,_,rfl,hx,rfl,rfl⟩
theorem st9 {W:World}{b:Nat}{x0 x1 x2 x3 x4 x5 x6 x7 x8:Value}{T:TypeId}(h:W.heap[b]? =some (.cells #[x0,x1,x2,x3,x4,x5,x6,x7,x8] T)):((W.frozen? ⟨b,0,none⟩=false∧W.frozen? ⟨b,1,none⟩=false∧W.frozen? ⟨b,2,none⟩=false∧W.frozen? ⟨b,3,none⟩=false∧W.frozen? ⟨b,4,none⟩=false)∧W.frozen? ⟨b,5,none⟩=false∧W.frozen? ⟨b,6,none⟩=false∧W.frozen? ⟨b,7,none⟩=false∧W.frozen? ⟨b,8,none⟩=false)∧
  (W.cell? ⟨b,0,none⟩=some x0∧W.cell? ⟨b,1,none⟩=some x1∧W.cell? ⟨b,2,none⟩=some x2∧W.cell? ⟨b,3,none⟩=some x3∧W.cell? ⟨b,4,none⟩=some x4)∧W.cell? ⟨b,5,none⟩=some x5∧W.cell? ⟨b,6,none⟩=some x6∧W.cell? ⟨b,7,none⟩=some x7∧W.cell? ⟨b,8,none⟩=some x8:=
 ⟨⟨⟨fh_ h 0,fh_ h 1,fh_ h 2,fh_ h 3,fh_ h 4⟩,fh_ h 5,fh_ h 6,fh_ h 7,fh_ h 8⟩,⟨(ch_ h 0).trans rfl,(ch_ h 1).trans rfl,(ch_ h 2).trans rfl,(ch_ h 3).trans rfl,(ch_ h 4).trans rfl⟩,(ch_ h 5).trans rfl,(ch_ h 6).trans rfl,(ch_ h 7).trans rfl,(ch_ h 8).trans rfl⟩
theorem kid_at {B:Nat→Prop}{w:World}{n:Nd}{t:Int}{A:Option Addr}{l k:Nat}{K:Option Addr}{m u:Nat}(h:NdC B w n (.int .u8 t) (.slice A l k) (.slice K m u))(i:Nat)(hi:i<m):m≤u∧u≤maxLen∧∃g off t A1 l1 k1 K1 m1 n1,K=some ⟨g,off,none⟩∧w.cell? ⟨g,off+i*3,none⟩=some (.int .u8 t)∧w.cell? ⟨g,off+i*3+1,none⟩=some (.slice A1 l1 k1)∧w.cell? ⟨g,off+i*3+2,none⟩=some (.slice K1 m1 n1)∧NdC B w (kidF n i) (.int .u8 t) (.slice A1 l1 k1) (.slice K1 m1 n1):=by
 obtain⟨t',b,ks⟩:=n
 obtain⟨_,_,_,K',u',e,h1,h2,hL⟩:=NdC.kidsL h
 simp only[Value.slice.injEq] at e
 obtain⟨rfl,rfl,rfl⟩:=e
 obtain⟨g,off,t1,A1,l1,k1,K1,m1,n1,e0,e1,e2,e3,hn⟩:=nd_cells hL (br_ _ w) i hi
 refine⟨h1,h2,g,off,t1,A1,l1,k1,K1,m1,n1,e0,e1,e2,e3,?_⟩
 rw[show kidF (.mk t' b ks) i=ks[i] by show ks.getD i _=ks[i];rw[List.getD_eq_getElem?_getD,List.getElem?_eq_getElem hi];rfl]
 exact hn
theorem extsOf_any (B:Nat→Prop)(K:Option Addr)(n c:Nat)(ks:List Nd)(w:World)(hl:ks.length=n)(hL:Lst ndE B w K ks)(hc:n≤c)(hm:c≤maxLen)(hT:Tabs w):
 Calls Tryz.prog 58 #[.slice K n c] w (XO w (exTold ks)):=by
 obtain⟨W0,hW0⟩:=nm_ (w.alloc (.cells #[.bool false,.bool false,.int .i64 0,.int .u16 0,.slice none 0 0,.slice none 0 0,.slice none 0 0,.slice none 0 0,.slice none 0 0] 30))
 have hb0:Below w.heap.size w W0:=by rw[←hW0];exact below_new _ _
 have hz0:W0.heap.size=w.heap.size+1:=by rw[←hW0];simp
 have p0:W0.heap[w.heap.size]? =some (.cells #[.bool false,.bool false,.int .i64 0,.int .u16 0,.slice none 0 0,.slice none 0 0,.slice none 0 0,.slice none 0 0,.slice none 0 0] 30):=by rw[←hW0];exact heap_new_ _ _
 have zero: ∀er R,(match R with |none=>er≠0 |some y=>er=0∧ex0=y)→∀W',Below w.heap.size w W'→XO w R (.returned (.tuple #[.agg #[.bool false,.bool false,.int .i64 0,.int .u16 0,.slice none 0 0,.slice none 0 0,.slice none 0 0,.slice none 0 0,.slice none 0 0],.int .i64 er])) W':=fun er R hR W' hb=>⟨hb,ex0,_,_,_,_,_,_,_,_,_,_,rfl,ex0_cells _ _,hR⟩
 obtain⟨⟨⟨f0,f1,f2,f3,f4⟩,f5,f6,f7,f8⟩,⟨s0,s1,s2,s3,s4⟩,s5,s6,s7,s8⟩:=st9 p0
 by_cases h0:n=0
 ·subst h0
  obtain rfl:=List.eq_nil_of_length_eq_zero hl
  obtain⟨r0,r1,r2,r3,r4,r5,r6,r7,r8,hB⟩:=res9 (y0:=.bool false) (y1:=.bool false) (y2:=.int .i64 0) (y3:=.int .u16 0) (y4:=.slice none 0 0) (y5:=.slice none 0 0) (y6:=.slice none 0 0) (y7:=.slice none 0 0) (y8:=.slice none 0 0) (lr_ _) hb0 p0
  have HE:=hd_ (zero 0 (exTold []) ⟨rfl,rfl⟩ _ hB)
  clear hB zero hb0 p0 hz0 hL hT
  go_enter Tryz.func58,Tryz.ntmps58
  go_wp2_with fail
  refine bodyPost_ret (v:=.tuple #[.agg #[.bool false,.bool false,.int .i64 0,.int .u16 0,.slice none 0 0,.slice none 0 0,.slice none 0 0,.slice none 0 0,.slice none 0 0],.int .i64 0]) ?_ rfl HE.out
  simp[results,Tryz.results58,go_sem,r0,r1,r2,r3,r4,r5,r6,r7,r8]
 ·match ks,hl with
  | [],hl=>exact absurd hl.symm h0
  |m::ks,hl=>
  obtain⟨g,off,t1,A1,l1,k1,K1,m1,n1,rfl,z0,z1,z2,hn⟩:=nd_cells hL hb0 0 (by simp)
  have hn:NdC B W0 m (.int .u8 t1) (.slice A1 l1 k1) (.slice K1 m1 n1):=hn
  have hml:=nd_len' hn
  have z2:W0.cell? ⟨g,off+2,none⟩=some (.slice K1 m1 n1):=by simpa using z2
  have hn0:((n:Int)==0)=false:=by rw[beq_eq_false_iff_ne];omega
  have hn1:(0:Int)< (n:Int):=by omega
  by_cases h1:m1=1
  ·subst h1
   obtain⟨k11,k12,g',off',t2,A2,l2,k2,K2,m2,n2,rfl,v0,v1,v2,hn2⟩:=kid_at hn 0 (by omega)
   have v0:W0.cell? ⟨g',off',none⟩=some (.int .u8 t2):=by simpa using v0
   have v1:W0.cell? ⟨g',off'+1,none⟩=some (.slice A2 l2 k2):=by simpa using v1
   have v2:W0.cell? ⟨g',off'+2,none⟩=some (.slice K2 m2 n2):=by simpa using v2
   have hR:exTold (m::ks)=getX (kidF m 0):=if_pos hml.symm
   have HC:=hd_ ((getE_any _ (kidF m 0) _ _ _ W0 hn2 (hT.below hb0)).mono fun _ _=>xo_get)
   obtain⟨R,hR0⟩:=nm_ (getX (kidF m 0))
   rw[hR0] at HC hR
   rw[hR]
   have HP:=hd_ (ai_ hb0 (ai_ p0 hz0))
   clear zero hb0 p0 hz0 hL hT hn hn2 hml z0 z1 hR hR0 hl k11 k12 hc hm h0
   go_enter Tryz.func58,Tryz.ntmps58
   go_wp2_with fail
   refine HC.out.mono ?_
   rintro e w1 ⟨hb1,x,c0,c1,c2,c3,c4,c5,c6,c7,c8,er,rfl,hx,hr⟩
   have hz:=HP.out.2.2
   have p1:=(hb1.block w.heap.size (by omega)).trans HP.out.2.1
   have hB1:=below_then HP.out.1 hb1 (lr_ _)
   obtain⟨y0,y1,y2,y3,B4,y4,j4,B5,y5,j5,B6,y6,j6,B7,y7,j7,B8,y8,j8,rfl,rfl,rfl,rfl,rfl,rfl,rfl,rfl,rfl⟩:=exC_shape hx
   obtain⟨r0,r1,r2,r3,r4,r5,r6,r7,r8,hB⟩:=res9 (y0:=.bool y0) (y1:=.bool y1) (y2:=.int .i64 y2) (y3:=.int .u16 y3) (y4:=.slice B4 y4 j4) (y5:=.slice B5 y5 j5) (y6:=.slice B6 y6 j6) (y7:=.slice B7 y7 j7) (y8:=.slice B8 y8 j8) (lr_ _) hB1 p1
   have hx9:=res9_ex (b:=w.heap.size) (y0:=.bool y0) (y1:=.bool y1) (y2:=.int .i64 y2) (y3:=.int .u16 y3) (y4:=.slice B4 y4 j4) (y5:=.slice B5 y5 j5) (y6:=.slice B6 y6 j6) (y7:=.slice B7 y7 j7) (y8:=.slice B8 y8 j8) (fun g hg=>by omega) hx
   have hF:XO w R (.returned (.tuple #[.agg #[.bool y0,.bool y1,.int .i64 y2,.int .u16 y3,.slice B4 y4 j4,.slice B5 y5 j5,.slice B6 y6 j6,.slice B7 y7 j7,.slice B8 y8 j8],.int .i64 er])) _:=⟨hB,x,_,_,_,_,_,_,_,_,_,_,rfl,hx9.on (lr_ _) (fun _ _ _=>rfl) (fun g hg _=>by omega),hr⟩
   have HE:=hd_ hF
   clear f0 f1 f2 f3 f4 f5 f6 f7 f8 s0 s1 s2 s3 s4 s5 s6 s7 s8 z2 v0 v1 v2
   obtain⟨⟨⟨f0,f1,f2,f3,f4⟩,f5,f6,f7,f8⟩,⟨s0,s1,s2,s3,s4⟩,s5,s6,s7,s8⟩:=st9 p1
   clear hF hx9 hB hB1 p1 hb1 hx hr HC HP hz
   go_wp2_with fail
   refine bodyPost_ret (v:=.tuple #[.agg #[.bool y0,.bool y1,.int .i64 y2,.int .u16 y3,.slice B4 y4 j4,.slice B5 y5 j5,.slice B6 y6 j6,.slice B7 y7 j7,.slice B8 y8 j8],.int .i64 er]) ?_ rfl HE.out
   simp[results,Tryz.results58,go_sem,r0,r1,r2,r3,r4,r5,r6,r7,r8]
  ·have hR:exTold (m::ks)=none:=if_neg (fun e=>h1 (hml.trans e))
   rw[hR]
   have h1z:((m1:Int) !=1)=true:=by rw[bne_iff_ne];omega
   obtain⟨r0,r1,r2,r3,r4,r5,r6,r7,r8,hB⟩:=res9 (y0:=.bool false) (y1:=.bool false) (y2:=.int .i64 0) (y3:=.int .u16 0) (y4:=.slice none 0 0) (y5:=.slice none 0 0) (y6:=.slice none 0 0) (y7:=.slice none 0 0) (y8:=.slice none 0 0) (lr_ _) hb0 p0
   have HE:=hd_ (zero 111 none (show(111:Int)≠0 by decide) _ hB)
   clear hB zero hb0 p0 hz0 hL hT hn hml z0 z1 hR hl hc hm h0
   go_enter Tryz.func58,Tryz.ntmps58
   go_wp2_with fail
   refine bodyPost_ret (v:=.tuple #[.agg #[.bool false,.bool false,.int .i64 0,.int .u16 0,.slice none 0 0,.slice none 0 0,.slice none 0 0,.slice none 0 0,.slice none 0 0],.int .i64 111]) ?_ rfl HE.out
   simp[results,Tryz.results58,go_sem,r0,r1,r2,r3,r4,r5,r6,r7,r8]
end Go.Proofs.YtjanfogifehhmaaGreatDoor.nmc
