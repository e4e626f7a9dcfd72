/- The program's Get: right extensions of a node. The head of the statements of extensions. -/
import Derived.Test.YtjanfogifehhmaaGreatDoorAs
set_option maxRecDepth 100000
set_option maxHeartbeats 8000000
set_option linter.unusedVariables false
set_option linter.unusedSimpArgs false
namespace Go.Proofs.YtjanfogifehhmaaGreatDoor.nmc
open Go.RowKit tlvc tlvd ndc txc txm intc intm
def XGet (w:World)(r:Option Ex)(e:Ending)(w':World):Prop:=
 Below w.heap.size w w'∧match r with
 |none=>e=.returned (.tuple #[.agg #[.bool false,.bool false,.int .i64 0,.int .u16 0,.slice none 0 0,.slice none 0 0,.slice none 0 0,.slice none 0 0,.slice none 0 0],.int .i64 101])
 |some x=>∃c0 c1 c2 c3 c4 c5 c6 c7 c8,e=.returned (.tuple #[.agg #[c0,c1,c2,c3,c4,c5,c6,c7,c8],.int .i64 0])∧ExC (fun g=>w.heap.size≤g) w' x c0 c1 c2 c3 c4 c5 c6 c7 c8
def aftP (n:Nd)(x:Ex):Option Nd→Option Ex
 |none=>none
 |some m=>if sameN m n=true then some x else none
theorem getX_put {n:Nd}(hu:0≤(toldX n).usage∧(toldX n).usage≤65535):getX n=aftP n (toldX n) (putX (toldX n)):=by
 rw[putX_right hu]
 unfold getX aftP
 cases rightX (toldX n)
 ·rfl
 ·simp
theorem exC_shape {S:Nat→Prop}{w:World}{x:Ex}{c0 c1 c2 c3 c4 c5 c6 c7 c8:Value}(h:ExC S w x c0 c1 c2 c3 c4 c5 c6 c7 c8): ∃q0 q1 q2 q3 B4 q4 j4 B5 q5 j5 B6 q6 j6 B7 q7 j7 B8 q8 j8,c0=.bool q0∧c1=.bool q1∧c2=.int .i64 q2∧c3=.int .u16 q3∧c4=.slice B4 q4 j4∧c5=.slice B5 q5 j5∧c6=.slice B6 q6 j6∧c7=.slice B7 q7 j7∧c8=.slice B8 q8 j8:=by
 obtain⟨B4,j4,z4,_⟩:=id h.eku
 obtain⟨B5,j5,z5,_⟩:=id h.princs
 obtain⟨B6,j6,z6,_⟩:=id h.permit
 obtain⟨B7,j7,z7,_⟩:=id h.exclude
 obtain⟨B8,j8,z8,_⟩:=id h.odd
 exact⟨_,_,_,_,_,_,_,_,_,_,_,_,_,_,_,_,_,_,_,h.has,h.ca,h.path,h.usage,z4,z5,z6,z7,z8⟩
theorem getH_any (PP:Nd→Prop)(B:Nat→Prop)(n:Nd)(c0 c1 c2:Value)(w:World)(hn:NdC B w n c0 c1 c2)(hT:Tabs w)(hP: ∀k∈n.kids,PP k)(hRd: ∀i k,i<5→PP k→(oddOfF k).oid=koid i→ReadOK i):
 Calls Tryz.prog 119 #[.agg #[c0,c1,c2]] w (XGet w (getX n)):=by
 have hmf: ∀(fn:Fn) (first cap:Array Value) (w:World),(Instr.makeFunc fn first cap).run Tryz.prog w=.ok (.func fn first cap) w:=fun _ _ _ _=>rfl
 obtain⟨t,A1,l1,k1,K1,m1,u1,rfl,rfl,rfl⟩:=hn.shape
 obtain⟨W0,hW0⟩:=nm_ ((w.alloc (.cells #[.int .u8 t,.slice A1 l1 k1,.slice K1 m1 u1] 49)).alloc (.cells #[.bool false,.bool false,.int .i64 0,.int .u16 0,.slice none 0 0,.slice none 0 0,.slice none 0 0,.slice none 0 0,.slice none 0 0] 30))
 have hb0:Below w.heap.size w W0:=by rw[←hW0];exact(below_new _ _).alloc (by simp) _
 have hz0:W0.heap.size=w.heap.size+2:=by rw[←hW0];simp
 have q0:W0.heap[w.heap.size]? =some (.cells #[.int .u8 t,.slice A1 l1 k1,.slice K1 m1 u1] 49):=by rw[←hW0,heap_old_ _ _ (by simp)];exact heap_new_ _ _
 have p0:W0.heap[w.heap.size+1]? =some (.cells #[.bool false,.bool false,.int .i64 0,.int .u16 0,.slice none 0 0,.slice none 0 0,.slice none 0 0,.slice none 0 0,.slice none 0 0] 30):=by rw[←hW0];exact heap_is (by simp)
 obtain⟨x0,x1,x2⟩:=box_nd (br_ _ W0) q0
 obtain⟨X,hX⟩:=nm_ (toldX n)
 have htold:=toldH_any PP B n _ _ _ W0 (NdC.below hb0 _ _ _ _ hn) (hT.below hb0) hP hRd
 clear hP hRd
 rw[hX] at htold
 obtain⟨GX,hGX⟩:=nm_ (getX n)
 rw[hGX]
 have HC:=hd_ htold
 have HZ:=hd_ (ai_ hb0 (ai_ hz0 (ai_ q0 (ai_ p0 (ai_ hT hn)))))
 have HGX:=hd_ (ai_ hX hGX)
 clear hb0 hz0 q0 p0 hT hn hX hGX htold
 go_enter Tryz.func119,Tryz.ntmps119
 go_wp2_with fail
 refine HC.out.mono ?_
 rintro e w1 ⟨hb1,c0,c1,c2,c3,c4,c5,c6,c7,c8,rfl,hx1⟩
 obtain⟨q0,q1,q2,q3,B4,q4,j4,B5,q5,j5,B6,q6,j6,B7,q7,j7,B8,q8,j8,rfl,rfl,rfl,rfl,rfl,rfl,rfl,rfl,rfl⟩:=exC_shape hx1
 have hnb:=below_new w1 (.cells #[.bool q0,.bool q1,.int .i64 q2,.int .u16 q3,.slice B4 q4 j4,.slice B5 q5 j5,.slice B6 q6 j6,.slice B7 q7 j7,.slice B8 q8 j8] 30)
 have hqn:=heap_new_ w1 (.cells #[.bool q0,.bool q1,.int .i64 q2,.int .u16 q3,.slice B4 q4 j4,.slice B5 q5 j5,.slice B6 q6 j6,.slice B7 q7 j7,.slice B8 q8 j8] 30)
 have hx2:=hx1.below hnb
 have hb12:=below_then hb1 hnb (lr_ _)
 have hbw:=below_then HZ.out.1 hb12 (lr_ _)
 have hput:=putE_any _ X _ _ _ _ _ _ _ _ _ _ hx2 (HZ.out.2.2.2.2.1.below hbw)
 obtain⟨PX,hPX⟩:=nm_ (putX X)
 rw[hPX] at hput
 have HP:=hd_ hput
 have HB1:=hd_ (ai_ hb12 (ai_ hbw (ai_ hqn hx2)))
 have HGE:=hd_ (show GX=aftP n X PX from by
  rw[←HGX.out.2,getX_put (by rw[HGX.out.1];exact hx1.u16),HGX.out.1,hPX])
 clear hnb hqn hx2 hb12 hbw hput hPX hx1 hb1 HC HGX x0 x1 x2
 go_wp2_with fail
 refine HP.out.mono ?_
 rintro e w2 ⟨hb2,hpost⟩
 have hbw2:=below_then HB1.out.2.1 hb2 (lr_ _)
 have hb02:=below_then HB1.out.1 hb2 (lr_ _)
 cases PX with
 |none=>
  obtain rfl:=hpost
  have hG:GX=none:=HGE.out
  subst hG
  have hnb:=below_new w2 (.cells #[.int .u8 0,.slice none 0 0,.slice none 0 0] 49)
  have pE:=((below_then hb02 hnb (lr_ _)).block _ (Array.getElem?_eq_some_iff.1 HZ.out.2.2.2.1).1).trans HZ.out.2.2.2.1
  obtain⟨r0,r1,r2,r3,r4,r5,r6,r7,r8,hBe⟩:=res9 (b:=w.heap.size+1) (y0:=.bool false) (y1:=.bool false) (y2:=.int .i64 0) (y3:=.int .u16 0) (y4:=.slice none 0 0) (y5:=.slice none 0 0) (y6:=.slice none 0 0) (y7:=.slice none 0 0) (y8:=.slice none 0 0) (by omega) (below_then hbw2 hnb (lr_ _)) pE
  have fr0:=fh_ pE 0
  have sr0:=(ch_ pE 0).trans rfl
  have fr1:=fh_ pE 1
  have sr1:=(ch_ pE 1).trans rfl
  have fr2:=fh_ pE 2
  have sr2:=(ch_ pE 2).trans rfl
  have fr3:=fh_ pE 3
  have sr3:=(ch_ pE 3).trans rfl
  have fr4:=fh_ pE 4
  have sr4:=(ch_ pE 4).trans rfl
  have fr5:=fh_ pE 5
  have sr5:=(ch_ pE 5).trans rfl
  have fr6:=fh_ pE 6
  have sr6:=(ch_ pE 6).trans rfl
  have fr7:=fh_ pE 7
  have sr7:=(ch_ pE 7).trans rfl
  have fr8:=fh_ pE 8
  have sr8:=(ch_ pE 8).trans rfl
  have HE:=hd_ hBe
  clear hBe
  clear hnb hb2 hbw2 hb02 pE HP HB1 HGE
  go_wp2
  refine bodyPost_ret (v:=.tuple #[.agg #[.bool false,.bool false,.int .i64 0,.int .u16 0,.slice none 0 0,.slice none 0 0,.slice none 0 0,.slice none 0 0,.slice none 0 0],.int .i64 101]) ?_ rfl ⟨HE.out,rfl⟩
  simp[results,Tryz.results119,go_sem,r0,r1,r2,r3,r4,r5,r6,r7,r8]
 |some m=>
  obtain⟨t7,A7,l7,i7,K7,m7,u7,rfl,hm7⟩:=hpost
  have hnb:=below_new w2 (.cells #[.int .u8 t7,.slice A7 l7 i7,.slice K7 m7 u7] 49)
  have hqn:=heap_new_ w2 (.cells #[.int .u8 t7,.slice A7 l7 i7,.slice K7 m7 u7] 49)
  have hb03:=below_then hb02 hnb (lr_ _)
  have hbw3:=below_then hbw2 hnb (lr_ _)
  obtain⟨x0,x1,x2⟩:=box_nd hb03 HZ.out.2.2.1
  have hal:=alikeX_of (szN m) m n (lr_ _) _ _ _ ⟨_,_,_,rfl,NdC.below hnb _ _ _ _ hm7⟩ ⟨_,_,_,rfl,NdC.below hbw3 _ _ _ _ HZ.out.2.2.2.2.2⟩
  obtain⟨sb,hsb⟩:=nm_ (sameN m n)
  rw[hsb] at hal
  have HA:=hd_ hal
  have HSB:=hd_ hsb
  have HB3:=hd_ (ai_ hb03 hbw3)
  have HB2:=hd_ (below_then hb2 hnb (lr_ _))
  clear hnb hqn hb03 hbw3 hal hsb hm7 hb2 hbw2 hb02 HP
  go_wp2_with fail
  refine HA.out.mono ?_
  rintro e w4 ⟨rfl,hb4⟩
  have hbw4:=below_then HB3.out.2 hb4 (lr_ _)
  have pE:=((below_then HB3.out.1 hb4 (lr_ _)).block _ (Array.getElem?_eq_some_iff.1 HZ.out.2.2.2.1).1).trans HZ.out.2.2.2.1
  clear x0 x1 x2
  cases sb
  ·have hG:GX=none:=by rw[HGE.out];simp[aftP,HSB.out]
   subst hG
   obtain⟨r0,r1,r2,r3,r4,r5,r6,r7,r8,hBe⟩:=res9 (b:=w.heap.size+1) (y0:=.bool false) (y1:=.bool false) (y2:=.int .i64 0) (y3:=.int .u16 0) (y4:=.slice none 0 0) (y5:=.slice none 0 0) (y6:=.slice none 0 0) (y7:=.slice none 0 0) (y8:=.slice none 0 0) (by omega) (hbw4) pE
   have fr0:=fh_ pE 0
   have sr0:=(ch_ pE 0).trans rfl
   have fr1:=fh_ pE 1
   have sr1:=(ch_ pE 1).trans rfl
   have fr2:=fh_ pE 2
   have sr2:=(ch_ pE 2).trans rfl
   have fr3:=fh_ pE 3
   have sr3:=(ch_ pE 3).trans rfl
   have fr4:=fh_ pE 4
   have sr4:=(ch_ pE 4).trans rfl
   have fr5:=fh_ pE 5
   have sr5:=(ch_ pE 5).trans rfl
   have fr6:=fh_ pE 6
   have sr6:=(ch_ pE 6).trans rfl
   have fr7:=fh_ pE 7
   have sr7:=(ch_ pE 7).trans rfl
   have fr8:=fh_ pE 8
   have sr8:=(ch_ pE 8).trans rfl
   have HE:=hd_ hBe
   clear hBe
   clear hb4 hbw4 pE HA HSB HB1 HB2 HB3 HGE
   go_wp2
   refine bodyPost_ret (v:=.tuple #[.agg #[.bool false,.bool false,.int .i64 0,.int .u16 0,.slice none 0 0,.slice none 0 0,.slice none 0 0,.slice none 0 0,.slice none 0 0],.int .i64 101]) ?_ rfl ⟨HE.out,rfl⟩
   simp[results,Tryz.results119,go_sem,r0,r1,r2,r3,r4,r5,r6,r7,r8]
  ·have hG:GX=some X:=by rw[HGE.out];simp[aftP,HSB.out]
   subst hG
   obtain⟨y0,y1,y2,y3,y4,y5,y6,y7,y8⟩:=box9 (below_then HB2.out hb4 (lr_ _)) HB1.out.2.2.1
   have hx4:=HB1.out.2.2.2.below (below_then HB2.out hb4 (lr_ _))
   obtain⟨r0,r1,r2,r3,r4,r5,r6,r7,r8,hBe⟩:=res9 (b:=w.heap.size+1) (y0:=.bool q0) (y1:=.bool q1) (y2:=.int .i64 q2) (y3:=.int .u16 q3) (y4:=.slice B4 q4 j4) (y5:=.slice B5 q5 j5) (y6:=.slice B6 q6 j6) (y7:=.slice B7 q7 j7) (y8:=.slice B8 q8 j8) (by omega) hbw4 pE
   have hn9:=res9_ex (b:=w.heap.size+1) (y0:=.bool q0) (y1:=.bool q1) (y2:=.int .i64 q2) (y3:=.int .u16 q3) (y4:=.slice B4 q4 j4) (y5:=.slice B5 q5 j5) (y6:=.slice B6 q6 j6) (y7:=.slice B7 q7 j7) (y8:=.slice B8 q8 j8) (fun g hg=>by have:=HZ.out.2.1;omega) hx4
   have fr0:=fh_ pE 0
   have sr0:=(ch_ pE 0).trans rfl
   have fr1:=fh_ pE 1
   have sr1:=(ch_ pE 1).trans rfl
   have fr2:=fh_ pE 2
   have sr2:=(ch_ pE 2).trans rfl
   have fr3:=fh_ pE 3
   have sr3:=(ch_ pE 3).trans rfl
   have fr4:=fh_ pE 4
   have sr4:=(ch_ pE 4).trans rfl
   have fr5:=fh_ pE 5
   have sr5:=(ch_ pE 5).trans rfl
   have fr6:=fh_ pE 6
   have sr6:=(ch_ pE 6).trans rfl
   have fr7:=fh_ pE 7
   have sr7:=(ch_ pE 7).trans rfl
   have fr8:=fh_ pE 8
   have sr8:=(ch_ pE 8).trans rfl
   have HE:=hd_ (ai_ hBe (show ExC (fun g=>w.heap.size≤g) _ X _ _ _ _ _ _ _ _ _ from hn9.on (lr_ _) (fun _ _ _=>rfl) (fun g hg _=>by have:=HZ.out.2.1;omega)))
   clear hb4 hbw4 pE HA HSB HB1 HB2 HB3 HGE hx4 hn9 hBe
   go_wp2
   refine bodyPost_ret (v:=.tuple #[.agg #[.bool q0,.bool q1,.int .i64 q2,.int .u16 q3,.slice B4 q4 j4,.slice B5 q5 j5,.slice B6 q6 j6,.slice B7 q7 j7,.slice B8 q8 j8],.int .i64 0]) ?_ rfl ⟨HE.out.1,_,_,_,_,_,_,_,_,_,rfl,HE.out.2⟩
   simp[results,Tryz.results119,go_sem,r0,r1,r2,r3,r4,r5,r6,r7,r8]
theorem getE_any (B:Nat→Prop)(n:Nd)(c0 c1 c2:Value)(w:World)(hn:NdC B w n c0 c1 c2)(hT:Tabs w):
 Calls Tryz.prog 119 #[.agg #[c0,c1,c2]] w (XGet w (getX n)):=getH_any (fun _=>True) B n c0 c1 c2 w hn hT (fun _ _=>trivial) (fun i _ hi _ _ x n n0 n1 n2 q p c0 c1 c2 c3 c4 c5 c6 c7 c8 w hX hqp hn hTB=>read_all x n n0 n1 n2 q p c0 c1 c2 c3 c4 c5 c6 c7 c8 w hX hqp hn hTB i hi)
theorem get0_any (B:Nat→Prop)(n:Nd)(c0 c1 c2:Value)(w:World)(hn:NdC B w n c0 c1 c2)(hT:Tabs w)(hk: ∀k∈n.kids,(oddOfF k).oid=koid 0):
 Calls Tryz.prog 119 #[.agg #[c0,c1,c2]] w (XGet w (getX n)):=getH_any (fun k=>(oddOfF k).oid=koid 0) B n c0 c1 c2 w hn hT hk (fun i k hi hp he=>by
 obtain rfl:i=0:=by
  have h:=hp.symm.trans he
  match i,hi,h with
  |0,_,_=>rfl
  |1,_,h=>exact absurd h (by decide)
  |2,_,h=>exact absurd h (by decide)
  |3,_,h=>exact absurd h (by decide)
  |4,_,h=>exact absurd h (by decide)
 exact fun x n n0 n1 n2 q p c0 c1 c2 c3 c4 c5 c6 c7 c8 w hX hqp hn hTB=>read0_any x n n0 n1 n2 q p _ _ _ _ _ _ _ _ _ w hX hqp hn)
end Go.Proofs.YtjanfogifehhmaaGreatDoor.nmc
set_option maxRecDepth 100000
set_option maxHeartbeats 8000000
set_option linter.unusedVariables false
set_option linter.unusedSimpArgs false
namespace Go.Proofs.YtjanfogifehhmaaGreatDoor.nmc
open Go.RowKit tlvc tlvd ndc txc txm intc intm
def exZ (h c:Bool)(p u:Int):Ex:=⟨h,c,p,u,[],[],[],[],[]⟩
theorem exZ_cells (S:Nat→Prop)(w:World)(h c:Bool)(p u:Int)(hp: -9223372036854775808≤p∧p≤9223372036854775807)(hu:0≤u∧u≤65535):ExC S w (exZ h c p u) (.bool h) (.bool c) (.int .i64 p) (.int .u16 u) (.slice none 0 0) (.slice none 0 0) (.slice none 0 0) (.slice none 0 0) (.slice none 0 0):=
 ⟨rfl,rfl,rfl,hp,rfl,hu,LsC.nil,LsC.nil,LsC.nil,LsC.nil,LsC.nil⟩
theorem exZ_right (h c:Bool)(p u:Int):rightX (exZ h c p u)=(if c=true then h && decide (-1≤p) && decide (p≤100) else decide (p=0)):=by
 unfold rightX boundedX exZ
 simp[partX,oddsX]
theorem exZ_put (h c:Bool)(p u:Int)(hu:0≤u∧u≤65535):putX (exZ h c p u)=if (if c=true then h && decide (-1≤p) && decide (p≤100) else decide (p=0))=true then some (nodeX (exZ h c p u)) else none:=by
 rw[putX_right hu,exZ_right]
theorem exZ_kids (h c:Bool)(p u:Int):(nodeX (exZ h c p u)).kids.length=(if h=true then 1 else 0)+ (if u=0 then 0 else 1):=by
 have e1:decide (u≠0)= !decide (u=0):=by simp
 unfold nodeX exZ knownN ks5
 cases h<;>by_cases hu:u=0<;>simp[kthere,hu,Nd.kids,List.filter]
theorem nd_len {S:Nat→Prop}{w:World}{n:Nd}{c0 c1:Value}{K:Option Addr}{lk ck:Nat}(h:NdC S w n c0 c1 (.slice K lk ck)):lk=n.kids.length:=by
 obtain⟨t,b,ks⟩:=n
 obtain⟨_,_,_,K',ck',e,_⟩:=NdC.kidsL h
 simp only[Value.slice.injEq] at e
 exact e.2.1
theorem exZ_kid0: ∀k∈(nodeX (exZ true true 2 0)).kids,(oddOfF k).oid=koid 0:=fun k hk=>by
 have e:(nodeX (exZ true true 2 0)).kids=[extF ⟨koid 0,kcrit 0,bytesN (saysF (exZ true true 2 0) 0)⟩]:=rfl
 rw[e] at hk
 rw[List.mem_singleton.1 hk,oddOf_ext (by decide)]
end Go.Proofs.YtjanfogifehhmaaGreatDoor.nmc
