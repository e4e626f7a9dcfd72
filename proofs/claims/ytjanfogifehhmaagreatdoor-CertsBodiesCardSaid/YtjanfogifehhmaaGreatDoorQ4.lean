/- The document's Same of any two extensions: whether they are one. -/
import Derived.Test.YtjanfogifehhmaaGreatDoorQ3
import Derived.Test.YtjanfogifehhmaaGreatDoorQ7
set_option maxRecDepth 100000
set_option maxHeartbeats 16000000
set_option linter.unusedVariables false
set_option linter.unusedSimpArgs false
namespace Go.Proofs.YtjanfogifehhmaaGreatDoor.nmc
open Go.RowKit tlvc tlvd ndc txc txm intc intm
def eqI (a b:List Int):Bool:=decide (a=b)
def eqS (a b:ByteArray):Bool:=decide (a=b)
def eqQ (a b:Pr):Bool:=decide (a.realm=b.realm) && eqP eqS a.names b.names
def eqO (a b:Od):Bool:=decide (a.oid=b.oid) && (decide (a.crit=b.crit) && decide (a.body=b.body))
def sameX (x y:Ex):Bool:=decide (x.hasCA=y.hasCA) && (decide (x.ca=y.ca) && (decide (x.path=y.path) && (decide (x.usage=y.usage) && (eqP eqI x.eku y.eku && (eqP eqQ x.princs y.princs && (eqP (eqP eqW) x.permit y.permit && (eqP (eqP eqW) x.exclude y.exclude && (eqP eqO x.odd y.odd && true))))))))
theorem eqP_list {α:Type}{p:α→α→Bool}(hp: ∀a b,p a b=true↔a=b){a b:List α}:eqP p a b=true↔a=b:=by
 rw[eqP_iff]
 constructor
 ·rintro⟨hl,h⟩
  exact List.ext_getElem hl fun i h1 h2=>(hp _ _).1 (h i h1 h2)
 ·rintro rfl
  exact⟨rfl,fun i h1 h2=>(hp _ _).2 rfl⟩
theorem eqI_iff (a b:List Int):eqI a b=true↔a=b:=by unfold eqI;simp
theorem eqS_iff (a b:ByteArray):eqS a b=true↔a=b:=by unfold eqS;simp
theorem eqQ_iff (a b:Pr):eqQ a b=true↔a=b:=by
 unfold eqQ
 rw[Bool.and_eq_true,decide_eq_true_eq,eqP_list eqS_iff]
 cases a;cases b
 simp
theorem eqO_iff (a b:Od):eqO a b=true↔a=b:=by
 unfold eqO
 rw[Bool.and_eq_true,Bool.and_eq_true,decide_eq_true_eq,decide_eq_true_eq,decide_eq_true_eq]
 cases a;cases b
 simp
theorem sameX_iff (x y:Ex):sameX x y=true↔x=y:=by
 unfold sameX
 simp only[Bool.and_eq_true,decide_eq_true_eq,eqP_list eqI_iff,eqP_list eqQ_iff,eqP_list (p:=eqP eqW) (fun _ _=>eqW_list),eqP_list eqO_iff,and_true]
 cases x;cases y
 simp
theorem eqT_step {α:Type}{p:α→α→Bool}{a b:List α}{i:Nat}{R T:Bool}(h1:i<a.length)(h2:i<b.length)(h:(eqP p (a.drop i) (b.drop i) && T)=R):(p a[i] b[i]=false→R=false)∧(p a[i] b[i]=true→(eqP p (a.drop (i+1)) (b.drop (i+1)) && T)=R):=by
 obtain⟨r,hr⟩:=nm_ (eqP p (a.drop i) (b.drop i))
 rw[hr] at h
 obtain⟨g1,g2⟩:=eqP_step h1 h2 hr
 exact⟨fun e=>by rw[←h,g1 e,Bool.false_and],fun e=>by rw[g2 e,h]⟩
theorem eqT_end {α:Type}{p:α→α→Bool}{a b:List α}{i:Nat}{R T:Bool}(h1: ¬i<a.length)(h2: ¬i<b.length)(h:(eqP p (a.drop i) (b.drop i) && T)=R):T=R:=by
 obtain⟨r,hr⟩:=nm_ (eqP p (a.drop i) (b.drop i))
 rw[hr,eqP_end h1 h2 hr,Bool.true_and] at h
 exact h
theorem eqT_start {α:Type}{p:α→α→Bool}{a b:List α}{R T:Bool}(h:(eqP p a b && T)=R):(eqP p (a.drop 0) (b.drop 0) && T)=R:=by rw[List.drop_zero,List.drop_zero];exact h
theorem ralikeP_any (B C:Nat→Prop)(p q:Pr)(c0 c1 d0 d1:Value)(w:World)(hp:PrC B w p c0 c1)(hq:PrC C w q d0 d1):
 Calls Tryz.prog 67 #[.agg #[c0,c1],.agg #[d0,d1]] w fun e w'=>e=.returned (.bool (eqQ p q))∧Below w.heap.size w w':=by
 obtain⟨A,c,rfl,rfl,hc,hm,hL,hs⟩:=hp
 obtain⟨A',d,rfl,rfl,hc2,hm2,hL2,hs2⟩:=hq
 have h9:c≤9223372036854775807:=by unfold maxLen at hm;omega
 have h92:d≤9223372036854775807:=by unfold maxLen at hm2;omega
 obtain⟨R,hR⟩:=nm_ (eqQ p q)
 rw[hR]
 unfold eqQ at hR
 obtain⟨n,hlen⟩:=nm_ (p.names.length)
 obtain⟨s,hs0⟩:=nm_ (p.realm)
 obtain⟨xs,hxs⟩:=nm_ (p.names)
 obtain⟨m,hlen2⟩:=nm_ (q.names.length)
 obtain⟨t,ht0⟩:=nm_ (q.realm)
 obtain⟨ys,hys⟩:=nm_ (q.names)
 rw[hxs] at hlen hL hc hR⊢
 rw[hys] at hlen2 hL2 hc2 hR⊢
 rw[hs0] at hs hR⊢
 rw[ht0] at hs2 hR⊢
 rw[hlen] at hc⊢
 rw[hlen2] at hc2⊢
 obtain⟨W0,hW0⟩:=nm_ ((w.alloc (.cells #[.string s,.slice A n c] 107)).alloc (.cells #[.string t,.slice A' m d] 107))
 have hb0:Below w.heap.size w W0:=by rw[←hW0];exact(below_new _ _).alloc (by simp) _
 have p0:W0.heap[w.heap.size+1]? =some (.cells #[.string t,.slice A' m d] 107):=by rw[←hW0];exact heap_is (by simp)
 have q0:W0.heap[w.heap.size]? =some (.cells #[.string s,.slice A n c] 107):=by rw[←hW0,heap_old_ _ _ (by simp)];exact heap_new_ _ _
 have x0:W0.cell? ⟨w.heap.size,0,none⟩=some (.string s):=(ch_ q0 _).trans rfl
 have x1:W0.cell? ⟨w.heap.size,1,none⟩=some (.slice A n c):=(ch_ q0 _).trans rfl
 have y0:W0.cell? ⟨w.heap.size+1,0,none⟩=some (.string t):=(ch_ p0 _).trans rfl
 have y1:W0.cell? ⟨w.heap.size+1,1,none⟩=some (.slice A' m d):=(ch_ p0 _).trans rfl
 have HX:=hd_ (fun W (hW:Below W0.heap.size W0 W)=>ai_ (cell_on hW x1) (cell_on hW y1))
 have HL:=hd_ (ai_ hlen (ai_ hlen2 (ai_ hL (ai_ hL2 hb0))))
 by_cases hst:s=t
 ·subst hst
  by_cases hnm:n=m
  ·subst hnm
   have HR:=hd_ (show(eqP eqS (xs.drop 0) (ys.drop 0) && true)=R by rw[Bool.and_true,List.drop_zero,List.drop_zero,←hR,decide_eq_true rfl,Bool.true_and])
   clear hlen hlen2 hL hL2 hb0 p0 q0 hs0 ht0 hxs hys hm hm2 hs hs2 hR
   go_enter Tryz.func67,Tryz.ntmps67
   go_wp2_with fail
   go_loopg [5] (n+1) (fun gk s5 wx=>∃(i:Nat),s5=.int .i64 i∧i≤n∧n - i<gk∧Hid ((eqP eqS (xs.drop i) (ys.drop i) && true)=R∧Below W0.heap.size W0 wx))
   case atStart=>exact⟨0,rfl,by omega,by omega,hd_ ⟨HR.out,br_ _ _⟩⟩
   case round=>
    obtain⟨i,rfl,hi,hgk,HI⟩:=hrel
    clear x0 y0 x1 y1 HR
    obtain⟨x1,y1⟩:=HX.out wr HI.out.2
    by_cases hlt:i<n
    ·have hltz:(i:Int)< (n:Int):=by omega
     obtain⟨gk',rfl⟩: ∃g',gk=g'+1:=⟨gk - 1,by omega⟩
     have HN:=hd_ (ai_ (show i+1≤n from hlt) (show n - (i+1)<gk' by omega))
     have hix:i<xs.length:=by rw[HL.out.1];exact hlt
     have hiy:i<ys.length:=by rw[HL.out.2.1];exact hlt
     have hbw:=below_then HL.out.2.2.2.2 HI.out.2 (lr_ _)
     obtain⟨g,off,cs,rfl,hg,hcell,rfl,hx5⟩:=(HL.out.2.2.1.below hbw).at i hix
     obtain⟨g',off',cs',rfl,hg',hcell',rfl,_⟩:=(HL.out.2.2.2.1.below hbw).at i hiy
     have hstep:=eqT_step hix hiy HI.out.1
     have e0:=hcell 0 _ rfl
     have e1:=hcell' 0 _ rfl
     rw[show stE.sz=1 from rfl] at e0 e1
     rw[Nat.add_zero,Nat.mul_one] at e0 e1
     rw[show eqS xs[i] ys[i]=decide (xs[i]=ys[i]) from rfl] at hstep
     obtain⟨tx,htx⟩:=nm_ (xs[i])
     obtain⟨ty,hty⟩:=nm_ (ys[i])
     rw[htx] at e0 hstep
     rw[hty] at e1 hstep
     have g0:=fun(d:Nat) (os:Array Obj)=>cell_on (below_regrown wr d os) x1
     have g1:=fun(d:Nat) (os:Array Obj)=>cell_on (below_regrown wr d os) y1
     have g2:=fun(d:Nat) (os:Array Obj)=>cell_on (below_regrown wr d os) e0
     have g3:=fun(d:Nat) (os:Array Obj)=>cell_on (below_regrown wr d os) e1
     have i1:(0:Int)≤(i:Int):=by omega
     clear e0 e1 htx hty hx5 hcell hcell' hgk hbw
     by_cases hpq:tx=ty
     ·subst hpq
      have HS:=hd_ (hstep.2 (decide_eq_true rfl))
      clear hstep
      go_wp2_with fail
      clear x1 y1
      try dsimp only
      refine wp_region_quiet_below (by kernel_rfl) (by kernel_rfl) ?_
      repeat (go_big_quiet_step (fail))
      refine wpQuiet_nil ?_
      intro _ hw'
      obtain⟨⟨nq,osq⟩,hw''⟩:=hw'
      subst hw''
      have HF:=hd_ (below_then HI.out.2 (below_regrown wr nq osq) (lr_ _))
      clear g0 g1 g2 g3
      go_wp2
      go_roundg gk'
      case measure=>omega
      case rel=>exact⟨i+1,by go_num,HN.out.1,HN.out.2,hd_ ⟨HS.out,HF.out⟩⟩
     ·have hz1:=str_ne hpq
      have hz2:(tx.toList==ty.toList)=false:=by simpa using hz1
      have hz3:(tx.toList !=ty.toList)=true:=by simpa using hz1
      obtain rfl:=hstep.1 (decide_eq_false hpq)
      clear hstep
      go_wp2_with fail
      clear x1 y1
      try dsimp only
      refine wp_region_quiet_below (by kernel_rfl) (by kernel_rfl) ?_
      repeat (go_big_quiet_step (fail))
      refine wpQuiet_nil ?_
      intro _ hw'
      obtain⟨⟨nq,osq⟩,hw''⟩:=hw'
      subst hw''
      have HF:=hd_ (below_then HL.out.2.2.2.2 (below_then HI.out.2 (below_regrown wr nq osq) (lr_ _)) (lr_ _))
      clear g0 g1 g2 g3
      go_wp2
      go_ret
      exact⟨rfl,HF.out⟩
    ·obtain rfl:n=i:=by omega
     have hltz: ¬(n:Int)< (n:Int):=by omega
     have hR:=eqT_end (by rw[HL.out.1];omega) (by rw[HL.out.2.1];omega) HI.out.1
     subst hR
     clear hgk
     go_wp2
     go_ret
     exact⟨rfl,below_then HL.out.2.2.2.2 HI.out.2 (lr_ _)⟩
  ·have hz: ¬(n:Int)=(m:Int):=by omega
   have hz2:((n:Int)==(m:Int))=false:=by simpa using hz
   have hz3:((n:Int) !=(m:Int))=true:=by simpa using hz
   rw[eqP_no (by rw[hlen,hlen2];exact hnm),Bool.and_false] at hR
   subst hR
   have HE:=hd_ hb0
   clear hlen hlen2 hL hL2 hb0 p0 q0 hs0 ht0 hxs hys hm hm2 hs hs2 HX HL
   go_enter Tryz.func67,Tryz.ntmps67
   go_wp2
   go_ret
   exact⟨rfl,HE.out⟩
 ·have hz1:=str_ne hst
  have hz2:(s.toList==t.toList)=false:=by simpa using hz1
  have hz3:(s.toList !=t.toList)=true:=by simpa using hz1
  rw[decide_eq_false hst,Bool.false_and] at hR
  subst hR
  have HE:=hd_ hb0
  clear hlen hlen2 hL hL2 hb0 p0 q0 hs0 ht0 hxs hys hm hm2 hs hs2 HX HL
  go_enter Tryz.func67,Tryz.ntmps67
  go_wp2
  go_ret
  exact⟨rfl,HE.out⟩
theorem sameX_no (b0 b1 e0 e1:Bool)(b2 b3 e2 e3:Int)(A4 B4:Option Addr)(L4 M4 k4 j4:Nat)(A5 B5:Option Addr)(L5 M5 k5 j5:Nat)(A6 B6:Option Addr)(L6 M6 k6 j6:Nat)(A7 B7:Option Addr)(L7 M7 k7 j7:Nat)(A8 B8:Option Addr)(L8 M8 k8 j8:Nat)(w:World)(h: ¬(b0=e0∧b1=e1∧b2=e2∧b3=e3∧L4=M4∧L5=M5∧L6=M6∧L7=M7∧L8=M8)):
 Calls Tryz.prog 32 #[.agg #[.bool b0,.bool b1,.int .i64 b2,.int .u16 b3,.slice A4 L4 k4,.slice A5 L5 k5,.slice A6 L6 k6,.slice A7 L7 k7,.slice A8 L8 k8],.agg #[.bool e0,.bool e1,.int .i64 e2,.int .u16 e3,.slice B4 M4 j4,.slice B5 M5 j5,.slice B6 M6 j6,.slice B7 M7 j7,.slice B8 M8 j8]] w fun e w'=>e=.returned (.bool false)∧Below w.heap.size w w':=by
 by_cases h0:b0=e0
 rotate_left
 ·exact sameX_0 _ _ _ _ _ _ _ _ _ _ _ _ _ _ _ _ _ _ _ _ _ _ _ _ _ _ _ _ _ _ _ _ _ _ _ _ _ _ w h0
 subst h0
 by_cases h1:b1=e1
 rotate_left
 ·exact sameX_1 _ _ _ _ _ _ _ _ _ _ _ _ _ _ _ _ _ _ _ _ _ _ _ _ _ _ _ _ _ _ _ _ _ _ _ _ _ w h1
 subst h1
 by_cases h2:b2=e2
 rotate_left
 ·exact sameX_2 _ _ _ _ _ _ _ _ _ _ _ _ _ _ _ _ _ _ _ _ _ _ _ _ _ _ _ _ _ _ _ _ _ _ _ _ w h2
 subst h2
 by_cases h3:b3=e3
 rotate_left
 ·exact sameX_3 _ _ _ _ _ _ _ _ _ _ _ _ _ _ _ _ _ _ _ _ _ _ _ _ _ _ _ _ _ _ _ _ _ _ _ w h3
 subst h3
 by_cases h4:L4=M4
 rotate_left
 ·exact sameX_4 _ _ _ _  _ _ _ _ _ _ _ _ _ _ _ _ _ _ _ _ _ _ _ _ _ _ _ _ _ _ _ _ _ _ w h4
 subst h4
 by_cases h5:L5=M5
 rotate_left
 ·exact sameX_5 _ _ _ _  _ _ _ _ _ _ _ _ _ _ _ _ _ _ _ _ _ _ _ _ _ _ _ _ _ _ _ _ _ w h5
 subst h5
 by_cases h6:L6=M6
 rotate_left
 ·exact sameX_6 _ _ _ _  _ _ _ _ _ _ _ _ _ _ _ _ _ _ _ _ _ _ _ _ _ _ _ _ _ _ _ _ w h6
 subst h6
 by_cases h7:L7=M7
 rotate_left
 ·exact sameX_7 _ _ _ _  _ _ _ _ _ _ _ _ _ _ _ _ _ _ _ _ _ _ _ _ _ _ _ _ _ _ _ w h7
 subst h7
 by_cases h8:L8=M8
 rotate_left
 ·exact sameX_8 _ _ _ _  _ _ _ _ _ _ _ _ _ _ _ _ _ _ _ _ _ _ _ _ _ _ _ _ _ _ w h8
 subst h8
 exact absurd ⟨rfl,rfl,rfl,rfl,rfl,rfl,rfl,rfl,rfl⟩ h
theorem rsameX_any (B C:Nat→Prop)(x y:Ex)(c0 c1 c2 c3 c4 c5 c6 c7 c8 d0 d1 d2 d3 d4 d5 d6 d7 d8:Value)(w:World)(hx:ExC B w x c0 c1 c2 c3 c4 c5 c6 c7 c8)(hy:ExC C w y d0 d1 d2 d3 d4 d5 d6 d7 d8):
 Calls Tryz.prog 32 #[.agg #[c0,c1,c2,c3,c4,c5,c6,c7,c8],.agg #[d0,d1,d2,d3,d4,d5,d6,d7,d8]] w fun e w'=>e=.returned (.bool (sameX x y))∧Below w.heap.size w w':=by
 obtain⟨A4,k4,rfl,kc4,km4,hA4⟩:=hx.eku
 obtain⟨B4,j4,rfl,jc4,jm4,hB4⟩:=hy.eku
 obtain⟨A5,k5,rfl,kc5,km5,hA5⟩:=hx.princs
 obtain⟨B5,j5,rfl,jc5,jm5,hB5⟩:=hy.princs
 obtain⟨A6,k6,rfl,kc6,km6,hA6⟩:=hx.permit
 obtain⟨B6,j6,rfl,jc6,jm6,hB6⟩:=hy.permit
 obtain⟨A7,k7,rfl,kc7,km7,hA7⟩:=hx.exclude
 obtain⟨B7,j7,rfl,jc7,jm7,hB7⟩:=hy.exclude
 obtain⟨A8,k8,rfl,kc8,km8,hA8⟩:=hx.odd
 obtain⟨B8,j8,rfl,jc8,jm8,hB8⟩:=hy.odd
 obtain rfl:=hx.has
 obtain rfl:=hy.has
 obtain rfl:=hx.ca
 obtain rfl:=hy.ca
 obtain rfl:=hx.path
 obtain rfl:=hy.path
 obtain rfl:=hx.usage
 obtain rfl:=hy.usage
 clear hx hy
 obtain⟨R,hR⟩:=nm_ (sameX x y)
 rw[hR]
 unfold sameX at hR
 obtain⟨xs4,hxs4⟩:=nm_ (x.eku)
 rw[hxs4] at kc4 hA4 hR⊢
 obtain⟨ys4,hys4⟩:=nm_ (y.eku)
 rw[hys4] at jc4 hB4 hR⊢
 obtain⟨L4,hL4⟩:=nm_ (xs4.length)
 rw[hL4] at kc4⊢
 obtain⟨M4,hM4⟩:=nm_ (ys4.length)
 rw[hM4] at jc4⊢
 have q4:k4≤9223372036854775807:=by unfold maxLen at km4;omega
 have r4:j4≤9223372036854775807:=by unfold maxLen at jm4;omega
 clear hxs4 hys4 km4 jm4
 obtain⟨xs5,hxs5⟩:=nm_ (x.princs)
 rw[hxs5] at kc5 hA5 hR⊢
 obtain⟨ys5,hys5⟩:=nm_ (y.princs)
 rw[hys5] at jc5 hB5 hR⊢
 obtain⟨L5,hL5⟩:=nm_ (xs5.length)
 rw[hL5] at kc5⊢
 obtain⟨M5,hM5⟩:=nm_ (ys5.length)
 rw[hM5] at jc5⊢
 have q5:k5≤9223372036854775807:=by unfold maxLen at km5;omega
 have r5:j5≤9223372036854775807:=by unfold maxLen at jm5;omega
 clear hxs5 hys5 km5 jm5
 obtain⟨xs6,hxs6⟩:=nm_ (x.permit)
 rw[hxs6] at kc6 hA6 hR⊢
 obtain⟨ys6,hys6⟩:=nm_ (y.permit)
 rw[hys6] at jc6 hB6 hR⊢
 obtain⟨L6,hL6⟩:=nm_ (xs6.length)
 rw[hL6] at kc6⊢
 obtain⟨M6,hM6⟩:=nm_ (ys6.length)
 rw[hM6] at jc6⊢
 have q6:k6≤9223372036854775807:=by unfold maxLen at km6;omega
 have r6:j6≤9223372036854775807:=by unfold maxLen at jm6;omega
 clear hxs6 hys6 km6 jm6
 obtain⟨xs7,hxs7⟩:=nm_ (x.exclude)
 rw[hxs7] at kc7 hA7 hR⊢
 obtain⟨ys7,hys7⟩:=nm_ (y.exclude)
 rw[hys7] at jc7 hB7 hR⊢
 obtain⟨L7,hL7⟩:=nm_ (xs7.length)
 rw[hL7] at kc7⊢
 obtain⟨M7,hM7⟩:=nm_ (ys7.length)
 rw[hM7] at jc7⊢
 have q7:k7≤9223372036854775807:=by unfold maxLen at km7;omega
 have r7:j7≤9223372036854775807:=by unfold maxLen at jm7;omega
 clear hxs7 hys7 km7 jm7
 obtain⟨xs8,hxs8⟩:=nm_ (x.odd)
 rw[hxs8] at kc8 hA8 hR⊢
 obtain⟨ys8,hys8⟩:=nm_ (y.odd)
 rw[hys8] at jc8 hB8 hR⊢
 obtain⟨L8,hL8⟩:=nm_ (xs8.length)
 rw[hL8] at kc8⊢
 obtain⟨M8,hM8⟩:=nm_ (ys8.length)
 rw[hM8] at jc8⊢
 have q8:k8≤9223372036854775807:=by unfold maxLen at km8;omega
 have r8:j8≤9223372036854775807:=by unfold maxLen at jm8;omega
 clear hxs8 hys8 km8 jm8
 obtain⟨b0,hb0⟩:=nm_ (x.hasCA)
 obtain⟨e0,he0⟩:=nm_ (y.hasCA)
 rw[hb0,he0] at hR⊢
 clear hb0 he0
 obtain⟨b1,hb1⟩:=nm_ (x.ca)
 obtain⟨e1,he1⟩:=nm_ (y.ca)
 rw[hb1,he1] at hR⊢
 clear hb1 he1
 obtain⟨b2,hb2⟩:=nm_ (x.path)
 obtain⟨e2,he2⟩:=nm_ (y.path)
 rw[hb2,he2] at hR⊢
 clear hb2 he2
 obtain⟨b3,hb3⟩:=nm_ (x.usage)
 obtain⟨e3,he3⟩:=nm_ (y.usage)
 rw[hb3,he3] at hR⊢
 clear hb3 he3
 by_cases hall:b0=e0∧b1=e1∧b2=e2∧b3=e3∧L4=M4∧L5=M5∧L6=M6∧L7=M7∧L8=M8
 ·obtain⟨rfl,rfl,rfl,rfl,rfl,rfl,rfl,rfl,rfl⟩:=hall
  simp only[decide_eq_true rfl,Bool.true_and] at hR
  obtain⟨T8,hT8⟩:=nm_ true
  rw[hT8] at hR
  obtain⟨T7,hT7⟩:=nm_ (eqP eqO xs8 ys8 && T8)
  rw[hT7] at hR
  obtain⟨T6,hT6⟩:=nm_ (eqP (eqP eqW) xs7 ys7 && T7)
  rw[hT6] at hR
  obtain⟨T5,hT5⟩:=nm_ (eqP (eqP eqW) xs6 ys6 && T6)
  rw[hT5] at hR
  obtain⟨T4,hT4⟩:=nm_ (eqP eqQ xs5 ys5 && T5)
  rw[hT4] at hR
  have z0:(b0 !=b0)=false:=by cases b0<;>rfl
  have z1:(b1 !=b1)=false:=by cases b1<;>rfl
  have z2:(b2 !=b2)=false:=by simp
  have z3:(b3 !=b3)=false:=by simp
  obtain⟨W0,hW0⟩:=nm_ ((w.alloc (.cells #[.bool b0,.bool b1,.int .i64 b2,.int .u16 b3,.slice A4 L4 k4,.slice A5 L5 k5,.slice A6 L6 k6,.slice A7 L7 k7,.slice A8 L8 k8] 30)).alloc (.cells #[.bool b0,.bool b1,.int .i64 b2,.int .u16 b3,.slice B4 L4 j4,.slice B5 L5 j5,.slice B6 L6 j6,.slice B7 L7 j7,.slice B8 L8 j8] 30))
  have hb0:Below w.heap.size w W0:=by rw[←hW0];exact(below_new _ _).alloc (by simp) _
  have p0:W0.heap[w.heap.size+1]? =some (.cells #[.bool b0,.bool b1,.int .i64 b2,.int .u16 b3,.slice B4 L4 j4,.slice B5 L5 j5,.slice B6 L6 j6,.slice B7 L7 j7,.slice B8 L8 j8] 30):=by rw[←hW0];exact heap_is (by simp)
  have q0:W0.heap[w.heap.size]? =some (.cells #[.bool b0,.bool b1,.int .i64 b2,.int .u16 b3,.slice A4 L4 k4,.slice A5 L5 k5,.slice A6 L6 k6,.slice A7 L7 k7,.slice A8 L8 k8] 30):=by rw[←hW0,heap_old_ _ _ (by simp)];exact heap_new_ _ _
  obtain⟨s0,s1,s2,s3,s4,s5,s6,s7,s8⟩:=box9 (br_ _ W0) q0
  obtain⟨t0,t1,t2,t3,t4,t5,t6,t7,t8⟩:=box9 (br_ _ W0) p0
  have HB:=hd_ hb0
  clear hb0 p0 q0
  have HX4:=hd_ (fun W (hW:Below W0.heap.size W0 W)=>ai_ (cell_on hW s4) (cell_on hW t4))
  have HL4:=hd_ (ai_ hL4 (ai_ hM4 (ai_ hA4 hB4)))
  have HX5:=hd_ (fun W (hW:Below W0.heap.size W0 W)=>ai_ (cell_on hW s5) (cell_on hW t5))
  have HL5:=hd_ (ai_ hL5 (ai_ hM5 (ai_ hA5 hB5)))
  have HX6:=hd_ (fun W (hW:Below W0.heap.size W0 W)=>ai_ (cell_on hW s6) (cell_on hW t6))
  have HL6:=hd_ (ai_ hL6 (ai_ hM6 (ai_ hA6 hB6)))
  have HX7:=hd_ (fun W (hW:Below W0.heap.size W0 W)=>ai_ (cell_on hW s7) (cell_on hW t7))
  have HL7:=hd_ (ai_ hL7 (ai_ hM7 (ai_ hA7 hB7)))
  have HX8:=hd_ (fun W (hW:Below W0.heap.size W0 W)=>ai_ (cell_on hW s8) (cell_on hW t8))
  have HL8:=hd_ (ai_ hL8 (ai_ hM8 (ai_ hA8 hB8)))
  have HT4:=hd_ (hT4)
  have HT5:=hd_ (hT5)
  have HT6:=hd_ (hT6)
  have HT7:=hd_ (hT7)
  have HT8:=hd_ (congrArg (fun b=>Ending.returned (.bool b)) hT8)
  have HS4:=hd_ (ai_ (eqT_start hR) (br_ W0.heap.size W0))
  clear hR hL4 hM4 hA4 hB4 hT4 hL5 hM5 hA5 hB5 hT5 hL6 hM6 hA6 hB6 hT6 hL7 hM7 hA7 hB7 hT7 hL8 hM8 hA8 hB8 hT8
  go_enter Tryz.func32,Tryz.ntmps32
  go_wp2_with fail
  clear s0 s1 s2 s3 s4 s5 s6 s7 s8 t0 t1 t2 t3 t4 t5 t6 t7 t8 z0 z1 z2 z3
  go_loopg [5] (L4+1) (fun gk s wx=>∃(i:Nat),s=.int .i64 i∧i≤L4∧L4 - i<gk∧Hid ((eqP eqI (xs4.drop i) (ys4.drop i) && T4)=R∧Below W0.heap.size W0 wx))
  case atStart=>exact⟨0,rfl,by omega,by omega,HS4⟩
  case round=>
   obtain⟨i,rfl,hi,hgk,HI4⟩:=hrel
   clear HS4
   obtain⟨u4,v4⟩:=HX4.out wr HI4.out.2
   by_cases hlt:i<L4
   ·have hltz:(i:Int)< (L4:Int):=by omega
    obtain⟨gk',rfl⟩: ∃g',gk=g'+1:=⟨gk - 1,by omega⟩
    have HN:=hd_ (ai_ (show i+1≤L4 from hlt) (show L4 - (i+1)<gk' by omega))
    have hix:i<xs4.length:=by rw[HL4.out.1];exact hlt
    have hiy:i<ys4.length:=by rw[HL4.out.2.1];exact hlt
    have hbw:=below_then HB.out HI4.out.2 (lr_ _)
    obtain⟨g,off,cs,rfl,hg,hcell,hold⟩:=(HL4.out.2.2.1.below hbw).at i hix
    obtain⟨g',off',cs',rfl,hg',hcell',hold'⟩:=(HL4.out.2.2.2.below hbw).at i hiy
    have hstep:=eqT_step hix hiy HI4.out.1
    obtain⟨e0,rfl,a,la,ca,rfl,h1,h2,h3,h4⟩:=hold
    obtain⟨e0',rfl,a',la',ca',rfl,h1',h2',h3',h4'⟩:=hold'
    have hE:=fun W (hW:Below wr.heap.size wr W)=>isame_b a a' la ca la' ca' xs4[i] ys4[i] W (h3.below hW) (h3'.below hW) (Nat.le_trans h1 h2)
    obtain⟨o,ho⟩:=nm_ (eqI xs4[i] ys4[i])
    rw[ho] at hstep
    rw[show decide (xs4[i]=ys4[i])=o from ho] at hE
    have e0:=hcell 0 _ rfl
    have e0':=hcell' 0 _ rfl
    rw[show inE.sz=1 from rfl] at e0 e0'
    simp only[Nat.add_zero,Nat.mul_one] at e0 e0'
    have g0:=fun(d:Nat) (os:Array Obj)=>cell_on (below_regrown wr d os) e0
    have g0':=fun(d:Nat) (os:Array Obj)=>cell_on (below_regrown wr d os) e0'
    have f0:=fun(d:Nat) (os:Array Obj)=>cell_on (below_regrown wr d os) u4
    have f1:=fun(d:Nat) (os:Array Obj)=>cell_on (below_regrown wr d os) v4
    have i1:(0:Int)≤(i:Int):=by omega
    have HE:=hd_ (fun(d:Nat) (os:Array Obj)=>hE _ (below_regrown wr d os))
    clear hE hcell hcell' hgk hbw e0 e0' h1 h2 h3 h1' h2' h3' ho
    cases o
    ·obtain rfl:=hstep.1 rfl
     clear hstep
     go_wp2_with fail
     clear u4 v4
     try dsimp only
     refine wp_region_quiet_below (by kernel_rfl) (by kernel_rfl) ?_
     repeat (go_big_quiet_step ((first | (go_at_call 66;refine Calls.regrown_of (HE.out _ _)))))
     refine wpQuiet_nil ?_
     intro _ hw'
     obtain⟨⟨nq,osq⟩,hw''⟩:=hw'
     subst hw''
     have HF:=hd_ (below_then HI4.out.2 (below_regrown wr nq osq) (lr_ _))
     clear f0 f1 g0 g0'
     have HG:=hd_ (below_then HB.out HF.out (lr_ _))
     go_wp2
     go_ret
     exact⟨rfl,HG.out⟩
    ·have HS:=hd_ (hstep.2 rfl)
     clear hstep
     go_wp2_with fail
     clear u4 v4
     try dsimp only
     refine wp_region_quiet_below (by kernel_rfl) (by kernel_rfl) ?_
     repeat (go_big_quiet_step ((first | (go_at_call 66;refine Calls.regrown_of (HE.out _ _)))))
     refine wpQuiet_nil ?_
     intro _ hw'
     obtain⟨⟨nq,osq⟩,hw''⟩:=hw'
     subst hw''
     have HF:=hd_ (below_then HI4.out.2 (below_regrown wr nq osq) (lr_ _))
     clear f0 f1 g0 g0'
     go_wp2
     go_roundg gk'
     case measure=>omega
     case rel=>exact⟨i+1,by go_num,HN.out.1,HN.out.2,hd_ ⟨HS.out,HF.out⟩⟩
   ·obtain rfl:L4=i:=by omega
    have hltz: ¬(L4:Int)< (L4:Int):=by omega
    have hend:=eqT_end (by rw[HL4.out.1];omega) (by rw[HL4.out.2.1];omega) HI4.out.1
    clear hgk
    have HS5:=hd_ (ai_ (eqT_start (HT4.out.trans hend)) HI4.out.2)
    clear hend
    go_wp2_with fail
    clear u4 v4 hltz hlt hi HI4
    go_loopg [6] (L5+1) (fun gk s wx=>∃(i:Nat),s=.int .i64 i∧i≤L5∧L5 - i<gk∧Hid ((eqP eqQ (xs5.drop i) (ys5.drop i) && T5)=R∧Below W0.heap.size W0 wx))
    case atStart=>exact⟨0,rfl,by omega,by omega,HS5⟩
    case round=>
     obtain⟨i,rfl,hi,hgk,HI5⟩:=hrel
     clear HS5
     obtain⟨u5,v5⟩:=HX5.out wr HI5.out.2
     by_cases hlt:i<L5
     ·have hltz:(i:Int)< (L5:Int):=by omega
      obtain⟨gk',rfl⟩: ∃g',gk=g'+1:=⟨gk - 1,by omega⟩
      have HN:=hd_ (ai_ (show i+1≤L5 from hlt) (show L5 - (i+1)<gk' by omega))
      have hix:i<xs5.length:=by rw[HL5.out.1];exact hlt
      have hiy:i<ys5.length:=by rw[HL5.out.2.1];exact hlt
      have hbw:=below_then HB.out HI5.out.2 (lr_ _)
      obtain⟨g,off,cs,rfl,hg,hcell,hold⟩:=(HL5.out.2.2.1.below hbw).at i hix
      obtain⟨g',off',cs',rfl,hg',hcell',hold'⟩:=(HL5.out.2.2.2.below hbw).at i hiy
      have hstep:=eqT_step hix hiy HI5.out.1
      obtain⟨e0,e1,rfl,hp⟩:=hold
      obtain⟨e0',e1',rfl,hp'⟩:=hold'
      obtain⟨z,hz⟩:=nm_ (xs5[i])
      obtain⟨z',hz'⟩:=nm_ (ys5[i])
      rw[hz] at hp hstep
      rw[hz'] at hp' hstep
      clear hz hz'
      obtain⟨o,ho⟩:=nm_ (eqQ z z')
      have hE:=fun W (hW:Below wr.heap.size wr W)=>ralikeP_any _ _ z z' e0 e1 e0' e1' W (hp.below hW) (hp'.below hW)
      rw[ho] at hstep hE
      obtain⟨a,ca,rfl,rfl,_⟩:=hp
      obtain⟨a',ca',rfl,rfl,_⟩:=hp'
      have e0:=hcell 0 _ rfl
      have e0':=hcell' 0 _ rfl
      have e1:=hcell 1 _ rfl
      have e1':=hcell' 1 _ rfl
      rw[show prE.sz=2 from rfl] at e0 e0' e1 e1'
      simp only[Nat.add_zero,Nat.mul_one] at e0 e0' e1 e1'
      have g0:=fun(d:Nat) (os:Array Obj)=>cell_on (below_regrown wr d os) e0
      have g0':=fun(d:Nat) (os:Array Obj)=>cell_on (below_regrown wr d os) e0'
      have g1:=fun(d:Nat) (os:Array Obj)=>cell_on (below_regrown wr d os) e1
      have g1':=fun(d:Nat) (os:Array Obj)=>cell_on (below_regrown wr d os) e1'
      have f0:=fun(d:Nat) (os:Array Obj)=>cell_on (below_regrown wr d os) u5
      have f1:=fun(d:Nat) (os:Array Obj)=>cell_on (below_regrown wr d os) v5
      have i1:(0:Int)≤(i:Int):=by omega
      have HE:=hd_ (fun(d:Nat) (os:Array Obj)=>hE _ (below_regrown wr d os))
      clear hE hcell hcell' hgk hbw e0 e0' e1 e1' ho
      cases o
      ·obtain rfl:=hstep.1 rfl
       clear hstep
       go_wp2_with fail
       clear u5 v5
       try dsimp only
       refine wp_region_quiet_below (by kernel_rfl) (by kernel_rfl) ?_
       repeat (go_big_quiet_step ((first | (go_at_call 67;refine Calls.regrown_of (HE.out _ _)))))
       refine wpQuiet_nil ?_
       intro _ hw'
       obtain⟨⟨nq,osq⟩,hw''⟩:=hw'
       subst hw''
       have HF:=hd_ (below_then HI5.out.2 (below_regrown wr nq osq) (lr_ _))
       clear f0 f1 g0 g0' g1 g1'
       have HG:=hd_ (below_then HB.out HF.out (lr_ _))
       go_wp2
       go_ret
       exact⟨rfl,HG.out⟩
      ·have HS:=hd_ (hstep.2 rfl)
       clear hstep
       go_wp2_with fail
       clear u5 v5
       try dsimp only
       refine wp_region_quiet_below (by kernel_rfl) (by kernel_rfl) ?_
       repeat (go_big_quiet_step ((first | (go_at_call 67;refine Calls.regrown_of (HE.out _ _)))))
       refine wpQuiet_nil ?_
       intro _ hw'
       obtain⟨⟨nq,osq⟩,hw''⟩:=hw'
       subst hw''
       have HF:=hd_ (below_then HI5.out.2 (below_regrown wr nq osq) (lr_ _))
       clear f0 f1 g0 g0' g1 g1'
       go_wp2
       go_roundg gk'
       case measure=>omega
       case rel=>exact⟨i+1,by go_num,HN.out.1,HN.out.2,hd_ ⟨HS.out,HF.out⟩⟩
     ·obtain rfl:L5=i:=by omega
      have hltz: ¬(L5:Int)< (L5:Int):=by omega
      have hend:=eqT_end (by rw[HL5.out.1];omega) (by rw[HL5.out.2.1];omega) HI5.out.1
      clear hgk
      have HS6:=hd_ (ai_ (eqT_start (HT5.out.trans hend)) HI5.out.2)
      clear hend
      go_wp2_with fail
      clear u5 v5 hltz hlt hi HI5
      go_loopg [7] (L6+1) (fun gk s wx=>∃(i:Nat),s=.int .i64 i∧i≤L6∧L6 - i<gk∧Hid ((eqP (eqP eqW) (xs6.drop i) (ys6.drop i) && T6)=R∧Below W0.heap.size W0 wx))
      case atStart=>exact⟨0,rfl,by omega,by omega,HS6⟩
      case round=>
       obtain⟨i,rfl,hi,hgk,HI6⟩:=hrel
       clear HS6
       obtain⟨u6,v6⟩:=HX6.out wr HI6.out.2
       by_cases hlt:i<L6
       ·have hltz:(i:Int)< (L6:Int):=by omega
        obtain⟨gk',rfl⟩: ∃g',gk=g'+1:=⟨gk - 1,by omega⟩
        have HN:=hd_ (ai_ (show i+1≤L6 from hlt) (show L6 - (i+1)<gk' by omega))
        have hix:i<xs6.length:=by rw[HL6.out.1];exact hlt
        have hiy:i<ys6.length:=by rw[HL6.out.2.1];exact hlt
        have hbw:=below_then HB.out HI6.out.2 (lr_ _)
        obtain⟨g,off,cs,rfl,hg,hcell,hold⟩:=(HL6.out.2.2.1.below hbw).at i hix
        obtain⟨g',off',cs',rfl,hg',hcell',hold'⟩:=(HL6.out.2.2.2.below hbw).at i hiy
        have hstep:=eqT_step hix hiy HI6.out.1
        obtain⟨e0,rfl,a,ca,rfl,h1,h2,h3⟩:=hold
        obtain⟨e0',rfl,a',ca',rfl,h1',h2',h3'⟩:=hold'
        obtain⟨n,hn⟩:=nm_ (xs6[i].length)
        obtain⟨m,hm⟩:=nm_ (ys6[i].length)
        have hE:=fun W (hW:Below wr.heap.size wr W)=>ralike_any _ _ a a' n ca m ca' xs6[i] ys6[i] W hn hm (h3.below hW) (h3'.below hW) (by omega) h2 (by omega) h2'
        obtain⟨o,ho⟩:=nm_ (eqP eqW xs6[i] ys6[i])
        rw[ho] at hstep hE
        rw[hn] at hcell
        rw[hm] at hcell'
        have e0:=hcell 0 _ rfl
        have e0':=hcell' 0 _ rfl
        rw[show nmE.sz=1 from rfl] at e0 e0'
        simp only[Nat.add_zero,Nat.mul_one] at e0 e0'
        have g0:=fun(d:Nat) (os:Array Obj)=>cell_on (below_regrown wr d os) e0
        have g0':=fun(d:Nat) (os:Array Obj)=>cell_on (below_regrown wr d os) e0'
        have f0:=fun(d:Nat) (os:Array Obj)=>cell_on (below_regrown wr d os) u6
        have f1:=fun(d:Nat) (os:Array Obj)=>cell_on (below_regrown wr d os) v6
        have i1:(0:Int)≤(i:Int):=by omega
        have HE:=hd_ (fun(d:Nat) (os:Array Obj)=>hE _ (below_regrown wr d os))
        clear hE hcell hcell' hgk hbw e0 e0' h1 h2 h3 h1' h2' h3' hn hm ho
        cases o
        ·obtain rfl:=hstep.1 rfl
         clear hstep
         go_wp2_with fail
         clear u6 v6
         try dsimp only
         refine wp_region_quiet_below (by kernel_rfl) (by kernel_rfl) ?_
         repeat (go_big_quiet_step ((first | (go_at_call 31;refine Calls.regrown_of (HE.out _ _)))))
         refine wpQuiet_nil ?_
         intro _ hw'
         obtain⟨⟨nq,osq⟩,hw''⟩:=hw'
         subst hw''
         have HF:=hd_ (below_then HI6.out.2 (below_regrown wr nq osq) (lr_ _))
         clear f0 f1 g0 g0'
         have HG:=hd_ (below_then HB.out HF.out (lr_ _))
         go_wp2
         go_ret
         exact⟨rfl,HG.out⟩
        ·have HS:=hd_ (hstep.2 rfl)
         clear hstep
         go_wp2_with fail
         clear u6 v6
         try dsimp only
         refine wp_region_quiet_below (by kernel_rfl) (by kernel_rfl) ?_
         repeat (go_big_quiet_step ((first | (go_at_call 31;refine Calls.regrown_of (HE.out _ _)))))
         refine wpQuiet_nil ?_
         intro _ hw'
         obtain⟨⟨nq,osq⟩,hw''⟩:=hw'
         subst hw''
         have HF:=hd_ (below_then HI6.out.2 (below_regrown wr nq osq) (lr_ _))
         clear f0 f1 g0 g0'
         go_wp2
         go_roundg gk'
         case measure=>omega
         case rel=>exact⟨i+1,by go_num,HN.out.1,HN.out.2,hd_ ⟨HS.out,HF.out⟩⟩
       ·obtain rfl:L6=i:=by omega
        have hltz: ¬(L6:Int)< (L6:Int):=by omega
        have hend:=eqT_end (by rw[HL6.out.1];omega) (by rw[HL6.out.2.1];omega) HI6.out.1
        clear hgk
        have HS7:=hd_ (ai_ (eqT_start (HT6.out.trans hend)) HI6.out.2)
        clear hend
        go_wp2_with fail
        clear u6 v6 hltz hlt hi HI6
        go_loopg [8] (L7+1) (fun gk s wx=>∃(i:Nat),s=.int .i64 i∧i≤L7∧L7 - i<gk∧Hid ((eqP (eqP eqW) (xs7.drop i) (ys7.drop i) && T7)=R∧Below W0.heap.size W0 wx))
        case atStart=>exact⟨0,rfl,by omega,by omega,HS7⟩
        case round=>
         obtain⟨i,rfl,hi,hgk,HI7⟩:=hrel
         clear HS7
         obtain⟨u7,v7⟩:=HX7.out wr HI7.out.2
         by_cases hlt:i<L7
         ·have hltz:(i:Int)< (L7:Int):=by omega
          obtain⟨gk',rfl⟩: ∃g',gk=g'+1:=⟨gk - 1,by omega⟩
          have HN:=hd_ (ai_ (show i+1≤L7 from hlt) (show L7 - (i+1)<gk' by omega))
          have hix:i<xs7.length:=by rw[HL7.out.1];exact hlt
          have hiy:i<ys7.length:=by rw[HL7.out.2.1];exact hlt
          have hbw:=below_then HB.out HI7.out.2 (lr_ _)
          obtain⟨g,off,cs,rfl,hg,hcell,hold⟩:=(HL7.out.2.2.1.below hbw).at i hix
          obtain⟨g',off',cs',rfl,hg',hcell',hold'⟩:=(HL7.out.2.2.2.below hbw).at i hiy
          have hstep:=eqT_step hix hiy HI7.out.1
          obtain⟨e0,rfl,a,ca,rfl,h1,h2,h3⟩:=hold
          obtain⟨e0',rfl,a',ca',rfl,h1',h2',h3'⟩:=hold'
          obtain⟨n,hn⟩:=nm_ (xs7[i].length)
          obtain⟨m,hm⟩:=nm_ (ys7[i].length)
          have hE:=fun W (hW:Below wr.heap.size wr W)=>ralike_any _ _ a a' n ca m ca' xs7[i] ys7[i] W hn hm (h3.below hW) (h3'.below hW) (by omega) h2 (by omega) h2'
          obtain⟨o,ho⟩:=nm_ (eqP eqW xs7[i] ys7[i])
          rw[ho] at hstep hE
          rw[hn] at hcell
          rw[hm] at hcell'
          have e0:=hcell 0 _ rfl
          have e0':=hcell' 0 _ rfl
          rw[show nmE.sz=1 from rfl] at e0 e0'
          simp only[Nat.add_zero,Nat.mul_one] at e0 e0'
          have g0:=fun(d:Nat) (os:Array Obj)=>cell_on (below_regrown wr d os) e0
          have g0':=fun(d:Nat) (os:Array Obj)=>cell_on (below_regrown wr d os) e0'
          have f0:=fun(d:Nat) (os:Array Obj)=>cell_on (below_regrown wr d os) u7
          have f1:=fun(d:Nat) (os:Array Obj)=>cell_on (below_regrown wr d os) v7
          have i1:(0:Int)≤(i:Int):=by omega
          have HE:=hd_ (fun(d:Nat) (os:Array Obj)=>hE _ (below_regrown wr d os))
          clear hE hcell hcell' hgk hbw e0 e0' h1 h2 h3 h1' h2' h3' hn hm ho
          cases o
          ·obtain rfl:=hstep.1 rfl
           clear hstep
           go_wp2_with fail
           clear u7 v7
           try dsimp only
           refine wp_region_quiet_below (by kernel_rfl) (by kernel_rfl) ?_
           repeat (go_big_quiet_step ((first | (go_at_call 31;refine Calls.regrown_of (HE.out _ _)))))
           refine wpQuiet_nil ?_
           intro _ hw'
           obtain⟨⟨nq,osq⟩,hw''⟩:=hw'
           subst hw''
           have HF:=hd_ (below_then HI7.out.2 (below_regrown wr nq osq) (lr_ _))
           clear f0 f1 g0 g0'
           have HG:=hd_ (below_then HB.out HF.out (lr_ _))
           go_wp2
           go_ret
           exact⟨rfl,HG.out⟩
          ·have HS:=hd_ (hstep.2 rfl)
           clear hstep
           go_wp2_with fail
           clear u7 v7
           try dsimp only
           refine wp_region_quiet_below (by kernel_rfl) (by kernel_rfl) ?_
           repeat (go_big_quiet_step ((first | (go_at_call 31;refine Calls.regrown_of (HE.out _ _)))))
           refine wpQuiet_nil ?_
           intro _ hw'
           obtain⟨⟨nq,osq⟩,hw''⟩:=hw'
           subst hw''
           have HF:=hd_ (below_then HI7.out.2 (below_regrown wr nq osq) (lr_ _))
           clear f0 f1 g0 g0'
           go_wp2
           go_roundg gk'
           case measure=>omega
           case rel=>exact⟨i+1,by go_num,HN.out.1,HN.out.2,hd_ ⟨HS.out,HF.out⟩⟩
         ·obtain rfl:L7=i:=by omega
          have hltz: ¬(L7:Int)< (L7:Int):=by omega
          have hend:=eqT_end (by rw[HL7.out.1];omega) (by rw[HL7.out.2.1];omega) HI7.out.1
          clear hgk
          have HS8:=hd_ (ai_ (eqT_start (HT7.out.trans hend)) HI7.out.2)
          clear hend
          go_wp2_with fail
          clear u7 v7 hltz hlt hi HI7
          go_loopg [9] (L8+1) (fun gk s wx=>∃(i:Nat),s=.int .i64 i∧i≤L8∧L8 - i<gk∧Hid ((eqP eqO (xs8.drop i) (ys8.drop i) && T8)=R∧Below W0.heap.size W0 wx))
          case atStart=>exact⟨0,rfl,by omega,by omega,HS8⟩
          case round=>
           obtain⟨i,rfl,hi,hgk,HI8⟩:=hrel
           clear HS8
           obtain⟨u8,v8⟩:=HX8.out wr HI8.out.2
           by_cases hlt:i<L8
           ·have hltz:(i:Int)< (L8:Int):=by omega
            obtain⟨gk',rfl⟩: ∃g',gk=g'+1:=⟨gk - 1,by omega⟩
            have HN:=hd_ (ai_ (show i+1≤L8 from hlt) (show L8 - (i+1)<gk' by omega))
            have hix:i<xs8.length:=by rw[HL8.out.1];exact hlt
            have hiy:i<ys8.length:=by rw[HL8.out.2.1];exact hlt
            have hbw:=below_then HB.out HI8.out.2 (lr_ _)
            obtain⟨g,off,cs,rfl,hg,hcell,hold⟩:=(HL8.out.2.2.1.below hbw).at i hix
            obtain⟨g',off',cs',rfl,hg',hcell',hold'⟩:=(HL8.out.2.2.2.below hbw).at i hiy
            have hstep:=eqT_step hix hiy HI8.out.1
            obtain⟨e0,e1,e2,rfl,⟨a,la,ca,rfl,h1,h2,h3,h4⟩,rfl,⟨b,lb,cb,rfl,m1,m2,m3,m4⟩⟩:=hold
            obtain⟨e0',e1',e2',rfl,⟨a',la',ca',rfl,h1',h2',h3',h4'⟩,rfl,⟨b',lb',cb',rfl,m1',m2',m3',m4'⟩⟩:=hold'
            obtain⟨o,ho⟩:=nm_ (decide (xs8[i].oid=ys8[i].oid))
            have hE:=fun W (hW:Below wr.heap.size wr W)=>isame_b a a' la ca la' ca' xs8[i].oid ys8[i].oid W (h3.below hW) (h3'.below hW) (Nat.le_trans h1 h2)
            rw[ho] at hE
            rw[show eqO xs8[i] ys8[i]=(decide (xs8[i].oid=ys8[i].oid) && (decide (xs8[i].crit=ys8[i].crit) && decide (xs8[i].body=ys8[i].body))) from rfl,ho] at hstep
            have hv:=fun(d:Nat) (os:Array Obj)=>intc.str_now (m3.below (below_regrown wr d os)) cb
            have hv':=fun(d:Nat) (os:Array Obj)=>intc.str_now (m3'.below (below_regrown wr d os)) cb'
            have hfx:=m3.fit
            have hfy:=m3'.fit
            obtain⟨cr,hcr⟩:=nm_ (xs8[i].crit)
            obtain⟨cs,hcs⟩:=nm_ (ys8[i].crit)
            obtain⟨bx,hbx⟩:=nm_ (xs8[i].body)
            obtain⟨by',hby⟩:=nm_ (ys8[i].body)
            rw[hcr] at hcell hstep
            rw[hcs] at hcell' hstep
            rw[hbx] at hv hfx hstep
            rw[hby] at hv' hfy hstep
            clear hcr hcs hbx hby m1 m2 m3 m4 m1' m2' m3' m4' h4 h4'
            have e0:=hcell 0 _ rfl
            have e0':=hcell' 0 _ rfl
            have e1:=hcell 1 _ rfl
            have e1':=hcell' 1 _ rfl
            have e2:=hcell 2 _ rfl
            have e2':=hcell' 2 _ rfl
            rw[show odE.sz=3 from rfl] at e0 e0' e1 e1' e2 e2'
            simp only[Nat.add_zero,Nat.mul_one] at e0 e0' e1 e1' e2 e2'
            have g0:=fun(d:Nat) (os:Array Obj)=>cell_on (below_regrown wr d os) e0
            have g0':=fun(d:Nat) (os:Array Obj)=>cell_on (below_regrown wr d os) e0'
            have g1:=fun(d:Nat) (os:Array Obj)=>cell_on (below_regrown wr d os) e1
            have g1':=fun(d:Nat) (os:Array Obj)=>cell_on (below_regrown wr d os) e1'
            have g2:=fun(d:Nat) (os:Array Obj)=>cell_on (below_regrown wr d os) e2
            have g2':=fun(d:Nat) (os:Array Obj)=>cell_on (below_regrown wr d os) e2'
            have f0:=fun(d:Nat) (os:Array Obj)=>cell_on (below_regrown wr d os) u8
            have f1:=fun(d:Nat) (os:Array Obj)=>cell_on (below_regrown wr d os) v8
            have i1:(0:Int)≤(i:Int):=by omega
            have HE:=hd_ (fun(d:Nat) (os:Array Obj)=>hE _ (below_regrown wr d os))
            clear hE hcell hcell' hgk hbw e0 e0' e1 e1' e2 e2' h1 h2 h3 h1' h2' h3' ho
            cases o
            ·obtain rfl:=hstep.1 rfl
             clear hstep
             go_wp2_with fail
             clear u8 v8
             try dsimp only
             refine wp_region_quiet_below (by kernel_rfl) (by kernel_rfl) ?_
             repeat (go_big_quiet_step ((first | (go_at_call 66;refine Calls.regrown_of (HE.out _ _)))))
             refine wpQuiet_nil ?_
             intro _ hw'
             obtain⟨⟨nq,osq⟩,hw''⟩:=hw'
             subst hw''
             have HF:=hd_ (below_then HI8.out.2 (below_regrown wr nq osq) (lr_ _))
             clear f0 f1 g0 g0' g1 g1' g2 g2' hv hv'
             have HG:=hd_ (below_then HB.out HF.out (lr_ _))
             go_wp2
             go_ret
             exact⟨rfl,HG.out⟩
            ·by_cases hcc:cr=cs
             ·subst hcc
              have zc:(cr !=cr)=false:=by cases cr<;>rfl
              by_cases hbb:bx=by'
              ·subst hbb
               obtain⟨S,hS⟩:=nm_ (strOfNums bx)
               rw[hS] at hv hv'
               have HS:=hd_ (hstep.2 (by simp))
               clear hstep hfx hfy
               go_wp2_with fail
               clear u8 v8
               try dsimp only
               refine wp_region_quiet_below (by kernel_rfl) (by kernel_rfl) ?_
               repeat (go_big_quiet_step ((first | (go_at_call 66;refine Calls.regrown_of (HE.out _ _)))))
               refine wpQuiet_nil ?_
               intro _ hw'
               obtain⟨⟨nq,osq⟩,hw''⟩:=hw'
               subst hw''
               have HF:=hd_ (below_then HI8.out.2 (below_regrown wr nq osq) (lr_ _))
               clear f0 f1 g0 g0' g1 g1' g2 g2' hv hv'
               go_wp2
               go_roundg gk'
               case measure=>omega
               case rel=>exact⟨i+1,by go_num,HN.out.1,HN.out.2,hd_ ⟨HS.out,HF.out⟩⟩
              ·have hne:((strOfNums bx).toList==(strOfNums by').toList)=false:=intc.sameB_no hfx hfy hbb
               have hn2:((strOfNums bx).toList !=(strOfNums by').toList)=true:=by rw[bne,hne];rfl
               have hn3: ¬(strOfNums bx).toList=(strOfNums by').toList:=by simpa using hne
               obtain rfl:=hstep.1 (by simp[hbb])
               clear hstep hfx hfy
               go_wp2_with fail
               clear u8 v8
               try dsimp only
               refine wp_region_quiet_below (by kernel_rfl) (by kernel_rfl) ?_
               repeat (go_big_quiet_step ((first | (go_at_call 66;refine Calls.regrown_of (HE.out _ _)))))
               refine wpQuiet_nil ?_
               intro _ hw'
               obtain⟨⟨nq,osq⟩,hw''⟩:=hw'
               subst hw''
               have HF:=hd_ (below_then HI8.out.2 (below_regrown wr nq osq) (lr_ _))
               clear f0 f1 g0 g0' g1 g1' g2 g2' hv hv'
               have HG:=hd_ (below_then HB.out HF.out (lr_ _))
               go_wp2
               go_ret
               exact⟨rfl,HG.out⟩
             ·obtain⟨rfl,rfl⟩ | ⟨rfl,rfl⟩:(cr=true∧cs=false)∨(cr=false∧cs=true):=by revert hcc;cases cr<;>cases cs<;>simp
              all_goals
               obtain rfl:=hstep.1 (by simp)
               clear hstep hfx hfy hcc
               go_wp2_with fail
               clear u8 v8
               try dsimp only
               refine wp_region_quiet_below (by kernel_rfl) (by kernel_rfl) ?_
               repeat (go_big_quiet_step ((first | (go_at_call 66;refine Calls.regrown_of (HE.out _ _)))))
               refine wpQuiet_nil ?_
               intro _ hw'
               obtain⟨⟨nq,osq⟩,hw''⟩:=hw'
               subst hw''
               have HF:=hd_ (below_then HI8.out.2 (below_regrown wr nq osq) (lr_ _))
               clear f0 f1 g0 g0' g1 g1' g2 g2' hv hv'
               have HG:=hd_ (below_then HB.out HF.out (lr_ _))
               go_wp2
               go_ret
               exact⟨rfl,HG.out⟩
           ·obtain rfl:L8=i:=by omega
            have hltz: ¬(L8:Int)< (L8:Int):=by omega
            have hend:=eqT_end (by rw[HL8.out.1];omega) (by rw[HL8.out.2.1];omega) HI8.out.1
            clear hgk
            subst hend
            have HG:=hd_ (below_then HB.out HI8.out.2 (lr_ _))
            clear hi HI8
            go_wp2
            go_ret
            exact⟨HT8.out,HG.out⟩
 ·have hR0:R=false:=by
   cases hRR:R
   ·rfl
   ·refine absurd ?_ hall
    rw[hRR] at hR
    simp only[Bool.and_eq_true,decide_eq_true_eq,and_true] at hR
    obtain⟨g0,g1,g2,g3,g4,g5,g6,g7,g8⟩:=hR
    exact⟨g0,g1,g2,g3,hL4.symm.trans ((eqP_len g4).trans hM4),hL5.symm.trans ((eqP_len g5).trans hM5),hL6.symm.trans ((eqP_len g6).trans hM6),hL7.symm.trans ((eqP_len g7).trans hM7),hL8.symm.trans ((eqP_len g8).trans hM8)⟩
  subst hR0
  exact sameX_no b0 b1 e0 e1 b2 b3 e2 e3 _ _ _ _ _ _ _ _ _ _ _ _ _ _ _ _ _ _ _ _ _ _ _ _ _ _ _ _ _ _ w hall
end Go.Proofs.YtjanfogifehhmaaGreatDoor.nmc
