/- The document's Same of two extensions told alike. -/
import Derived.Test.YtjanfogifehhmaaGreatDoorAq
set_option maxRecDepth 100000
set_option maxHeartbeats 16000000
set_option linter.unusedVariables false
set_option linter.unusedSimpArgs false
namespace Go.Proofs.YtjanfogifehhmaaGreatDoor.nmc
open Go.RowKit tlvc tlvd ndc txc txm intc intm
theorem rsameX_self (B C:Nat→Prop)(x:Ex)(c0 c1 c2 c3 c4 c5 c6 c7 c8 d0 d1 d2 d3 d4 d5 d6 d7 d8:Value)(w:World)(hx:ExC B w x c0 c1 c2 c3 c4 c5 c6 c7 c8)(hy:ExC C w x d0 d1 d2 d3 d4 d5 d6 d7 d8):
 Calls Tryz.prog 32 #[.agg #[c0,c1,c2,c3,c4,c5,c6,c7,c8],.agg #[d0,d1,d2,d3,d4,d5,d6,d7,d8]] w fun e w'=>e=.returned (.bool true)∧Below w.heap.size w w':=by
 obtain⟨A4,k4,rfl,kc4,km4,hA4⟩:=hx.eku
 obtain⟨B4,j4,rfl,jc4,jm4,hB4⟩:=hy.eku
 obtain⟨A5,k5,rfl,kc5,km5,hA5⟩:=hx.princs
 obtain⟨B5,j5,rfl,jc5,jm5,hB5⟩:=hy.princs
 obtain⟨A6,k6,rfl,kc6,km6,hA6⟩:=hx.permit
 obtain⟨B6,j6,rfl,jc6,jm6,hB6⟩:=hy.permit
 obtain⟨A7,k7,rfl,kc7,km7,hA7⟩:=hx.exclude
 obtain⟨B7,j7,rfl,jc7,jm7,hB7⟩:=hy.exclude
 obtain⟨A8,k8,rfl,kc8,km8,hA8⟩:=hx.odd
 obtain⟨B8,j8,rfl,jc8,jm8,hB8⟩:=hy.odd
 obtain rfl:=hx.has
 obtain rfl:=hy.has
 obtain rfl:=hx.ca
 obtain rfl:=hy.ca
 obtain rfl:=hx.path
 obtain rfl:=hy.path
 obtain rfl:=hx.usage
 obtain rfl:=hy.usage
 clear hx hy
 obtain⟨xs4,hxs4⟩:=nm_ (x.eku)
 rw[hxs4] at kc4 jc4 hA4 hB4⊢
 obtain⟨L4,hL4⟩:=nm_ (xs4.length)
 rw[hL4] at kc4 jc4⊢
 have q4:k4≤9223372036854775807:=by unfold maxLen at km4;omega
 have r4:j4≤9223372036854775807:=by unfold maxLen at jm4;omega
 clear hxs4 km4 jm4
 obtain⟨xs5,hxs5⟩:=nm_ (x.princs)
 rw[hxs5] at kc5 jc5 hA5 hB5⊢
 obtain⟨L5,hL5⟩:=nm_ (xs5.length)
 rw[hL5] at kc5 jc5⊢
 have q5:k5≤9223372036854775807:=by unfold maxLen at km5;omega
 have r5:j5≤9223372036854775807:=by unfold maxLen at jm5;omega
 clear hxs5 km5 jm5
 obtain⟨xs6,hxs6⟩:=nm_ (x.permit)
 rw[hxs6] at kc6 jc6 hA6 hB6⊢
 obtain⟨L6,hL6⟩:=nm_ (xs6.length)
 rw[hL6] at kc6 jc6⊢
 have q6:k6≤9223372036854775807:=by unfold maxLen at km6;omega
 have r6:j6≤9223372036854775807:=by unfold maxLen at jm6;omega
 clear hxs6 km6 jm6
 obtain⟨xs7,hxs7⟩:=nm_ (x.exclude)
 rw[hxs7] at kc7 jc7 hA7 hB7⊢
 obtain⟨L7,hL7⟩:=nm_ (xs7.length)
 rw[hL7] at kc7 jc7⊢
 have q7:k7≤9223372036854775807:=by unfold maxLen at km7;omega
 have r7:j7≤9223372036854775807:=by unfold maxLen at jm7;omega
 clear hxs7 km7 jm7
 obtain⟨xs8,hxs8⟩:=nm_ (x.odd)
 rw[hxs8] at kc8 jc8 hA8 hB8⊢
 obtain⟨L8,hL8⟩:=nm_ (xs8.length)
 rw[hL8] at kc8 jc8⊢
 have q8:k8≤9223372036854775807:=by unfold maxLen at km8;omega
 have r8:j8≤9223372036854775807:=by unfold maxLen at jm8;omega
 clear hxs8 km8 jm8
 obtain⟨b0,hb0⟩:=nm_ (x.hasCA)
 obtain⟨b1,hb1⟩:=nm_ (x.ca)
 obtain⟨b2,hb2⟩:=nm_ (x.path)
 obtain⟨b3,hb3⟩:=nm_ (x.usage)
 rw[hb0,hb1,hb2,hb3]
 clear hb0 hb1 hb2 hb3
 have z0:(b0 !=b0)=false:=by cases b0<;>rfl
 have z1:(b1 !=b1)=false:=by cases b1<;>rfl
 have z2:(b2 !=b2)=false:=by simp
 have z3:(b3 !=b3)=false:=by simp
 obtain⟨W0,hW0⟩:=nm_ ((w.alloc (.cells #[.bool b0,.bool b1,.int .i64 b2,.int .u16 b3,.slice A4 L4 k4,.slice A5 L5 k5,.slice A6 L6 k6,.slice A7 L7 k7,.slice A8 L8 k8] 30)).alloc (.cells #[.bool b0,.bool b1,.int .i64 b2,.int .u16 b3,.slice B4 L4 j4,.slice B5 L5 j5,.slice B6 L6 j6,.slice B7 L7 j7,.slice B8 L8 j8] 30))
 have hb0:Below w.heap.size w W0:=by rw[←hW0];exact(below_new _ _).alloc (by simp) _
 have p0:W0.heap[w.heap.size+1]? =some (.cells #[.bool b0,.bool b1,.int .i64 b2,.int .u16 b3,.slice B4 L4 j4,.slice B5 L5 j5,.slice B6 L6 j6,.slice B7 L7 j7,.slice B8 L8 j8] 30):=by rw[←hW0];exact heap_is (by simp)
 have q0:W0.heap[w.heap.size]? =some (.cells #[.bool b0,.bool b1,.int .i64 b2,.int .u16 b3,.slice A4 L4 k4,.slice A5 L5 k5,.slice A6 L6 k6,.slice A7 L7 k7,.slice A8 L8 k8] 30):=by rw[←hW0,heap_old_ _ _ (by simp)];exact heap_new_ _ _
 obtain⟨s0,s1,s2,s3,s4,s5,s6,s7,s8⟩:=box9 (br_ _ W0) q0
 obtain⟨t0,t1,t2,t3,t4,t5,t6,t7,t8⟩:=box9 (br_ _ W0) p0
 have HX4:=hd_ (fun W (hW:Below W0.heap.size W0 W)=>ai_ (cell_on hW s4) (cell_on hW t4))
 have HL4:=hd_ (ai_ hL4 (ai_ hA4 hB4))
 have HX5:=hd_ (fun W (hW:Below W0.heap.size W0 W)=>ai_ (cell_on hW s5) (cell_on hW t5))
 have HL5:=hd_ (ai_ hL5 (ai_ hA5 hB5))
 have HX6:=hd_ (fun W (hW:Below W0.heap.size W0 W)=>ai_ (cell_on hW s6) (cell_on hW t6))
 have HL6:=hd_ (ai_ hL6 (ai_ hA6 hB6))
 have HX7:=hd_ (fun W (hW:Below W0.heap.size W0 W)=>ai_ (cell_on hW s7) (cell_on hW t7))
 have HL7:=hd_ (ai_ hL7 (ai_ hA7 hB7))
 have HX8:=hd_ (fun W (hW:Below W0.heap.size W0 W)=>ai_ (cell_on hW s8) (cell_on hW t8))
 have HL8:=hd_ (ai_ hL8 (ai_ hA8 hB8))
 have HB:=hd_ hb0
 clear hb0 p0 q0 hL4 hA4 hB4 hL5 hA5 hB5 hL6 hA6 hB6 hL7 hA7 hB7 hL8 hA8 hB8
 go_enter Tryz.func32,Tryz.ntmps32
 go_wp2_with fail
 clear s0 s1 s2 s3 s4 s5 s6 s7 s8 t0 t1 t2 t3 t4 t5 t6 t7 t8 z0 z1 z2 z3
 go_loopg [5] (L4+1) (fun gk s wx=>∃(i:Nat),s=.int .i64 i∧i≤L4∧L4 - i<gk∧Hid (Below W0.heap.size W0 wx))
 case atStart=>exact⟨0,rfl,by omega,by omega,hd_ (br_ _ _)⟩
 case round=>
  obtain⟨i,rfl,hi,hgk,HI4⟩:=hrel
  obtain⟨u4,v4⟩:=HX4.out wr HI4.out
  by_cases hlt:i<L4
  ·have hltz:(i:Int)< (L4:Int):=by omega
   obtain⟨gk',rfl⟩: ∃g',gk=g'+1:=⟨gk - 1,by omega⟩
   have HN:=hd_ (ai_ (show i+1≤L4 from hlt) (show L4 - (i+1)<gk' by omega))
   have hix:i<xs4.length:=by rw[HL4.out.1];exact hlt
   have hbw:=below_then HB.out HI4.out (lr_ _)
   obtain⟨g,off,cs,rfl,hg,hcell,hold⟩:=(HL4.out.2.1.below hbw).at i hix
   obtain⟨g',off',cs',rfl,hg',hcell',hold'⟩:=(HL4.out.2.2.below hbw).at i hix
   obtain⟨y,hy⟩:=nm_ (xs4[i])
   rw[hy] at hold hold'
   clear hy
   obtain⟨e0,rfl,a,la,ca,rfl,h1,h2,h3,h4⟩:=hold
   obtain⟨e0',rfl,a',la',ca',rfl,h1',h2',h3',h4'⟩:=hold'
   have hE:=fun W (hW:Below wr.heap.size wr W)=>isame_b a a' la ca la' ca' y y W (h3.below hW) (h3'.below hW) (Nat.le_trans h1 h2)
   rw[decide_eq_true rfl] at hE
   have e0:=hcell 0 _ rfl
   have e0':=hcell' 0 _ rfl
   rw[show inE.sz=1 from rfl] at e0 e0'
   simp only[Nat.add_zero,Nat.mul_one] at e0 e0'
   have g0:=fun(d:Nat) (os:Array Obj)=>cell_on (below_regrown wr d os) e0
   have g0':=fun(d:Nat) (os:Array Obj)=>cell_on (below_regrown wr d os) e0'
   have f0:=fun(d:Nat) (os:Array Obj)=>cell_on (below_regrown wr d os) u4
   have f1:=fun(d:Nat) (os:Array Obj)=>cell_on (below_regrown wr d os) v4
   have i1:(0:Int)≤(i:Int):=by omega
   have HE:=hd_ (fun(d:Nat) (os:Array Obj)=>hE _ (below_regrown wr d os))
   clear hE hcell hcell' hgk hbw e0 e0' h1 h2 h3 h1' h2' h3'
   go_wp2_with fail
   clear u4 v4
   try dsimp only
   refine wp_region_quiet_below (by kernel_rfl) (by kernel_rfl) ?_
   repeat (go_big_quiet_step ((first | (go_at_call 66;refine Calls.regrown_of (HE.out _ _)))))
   refine wpQuiet_nil ?_
   intro _ hw'
   obtain⟨⟨nq,osq⟩,hw''⟩:=hw'
   subst hw''
   have HF:=hd_ (below_then HI4.out (below_regrown wr nq osq) (lr_ _))
   clear f0 f1 g0 g0'
   go_wp2
   go_roundg gk'
   case measure=>omega
   case rel=>exact⟨i+1,by go_num,HN.out.1,HN.out.2,HF⟩
  ·obtain rfl:L4=i:=by omega
   have hltz: ¬(L4:Int)< (L4:Int):=by omega
   clear hgk
   go_wp2_with fail
   clear u4 v4 hltz hlt hi
   go_loopg [6] (L5+1) (fun gk s wx=>∃(i:Nat),s=.int .i64 i∧i≤L5∧L5 - i<gk∧Hid (Below W0.heap.size W0 wx))
   case atStart=>exact⟨0,rfl,by omega,by omega,HI4⟩
   case round=>
    obtain⟨i,rfl,hi,hgk,HI5⟩:=hrel
    clear HI4
    obtain⟨u5,v5⟩:=HX5.out wr HI5.out
    by_cases hlt:i<L5
    ·have hltz:(i:Int)< (L5:Int):=by omega
     obtain⟨gk',rfl⟩: ∃g',gk=g'+1:=⟨gk - 1,by omega⟩
     have HN:=hd_ (ai_ (show i+1≤L5 from hlt) (show L5 - (i+1)<gk' by omega))
     have hix:i<xs5.length:=by rw[HL5.out.1];exact hlt
     have hbw:=below_then HB.out HI5.out (lr_ _)
     obtain⟨g,off,cs,rfl,hg,hcell,hold⟩:=(HL5.out.2.1.below hbw).at i hix
     obtain⟨g',off',cs',rfl,hg',hcell',hold'⟩:=(HL5.out.2.2.below hbw).at i hix
     obtain⟨y,hy⟩:=nm_ (xs5[i])
     rw[hy] at hold hold'
     clear hy
     obtain⟨e0,e1,rfl,hp⟩:=hold
     obtain⟨e0',e1',rfl,hp'⟩:=hold'
     have hE:=fun W (hW:Below wr.heap.size wr W)=>ralikeP_self _ _ y e0 e1 e0' e1' W (hp.below hW) (hp'.below hW)
     obtain⟨a,ca,rfl,rfl,_⟩:=hp
     obtain⟨a',ca',rfl,rfl,_⟩:=hp'
     have e0:=hcell 0 _ rfl
     have e0':=hcell' 0 _ rfl
     have e1:=hcell 1 _ rfl
     have e1':=hcell' 1 _ rfl
     rw[show prE.sz=2 from rfl] at e0 e0' e1 e1'
     simp only[Nat.add_zero,Nat.mul_one] at e0 e0' e1 e1'
     have g0:=fun(d:Nat) (os:Array Obj)=>cell_on (below_regrown wr d os) e0
     have g0':=fun(d:Nat) (os:Array Obj)=>cell_on (below_regrown wr d os) e0'
     have g1:=fun(d:Nat) (os:Array Obj)=>cell_on (below_regrown wr d os) e1
     have g1':=fun(d:Nat) (os:Array Obj)=>cell_on (below_regrown wr d os) e1'
     have f0:=fun(d:Nat) (os:Array Obj)=>cell_on (below_regrown wr d os) u5
     have f1:=fun(d:Nat) (os:Array Obj)=>cell_on (below_regrown wr d os) v5
     have i1:(0:Int)≤(i:Int):=by omega
     have HE:=hd_ (fun(d:Nat) (os:Array Obj)=>hE _ (below_regrown wr d os))
     clear hE hcell hcell' hgk hbw e0 e0' e1 e1'
     go_wp2_with fail
     clear u5 v5
     try dsimp only
     refine wp_region_quiet_below (by kernel_rfl) (by kernel_rfl) ?_
     repeat (go_big_quiet_step ((first | (go_at_call 67;refine Calls.regrown_of (HE.out _ _)))))
     refine wpQuiet_nil ?_
     intro _ hw'
     obtain⟨⟨nq,osq⟩,hw''⟩:=hw'
     subst hw''
     have HF:=hd_ (below_then HI5.out (below_regrown wr nq osq) (lr_ _))
     clear f0 f1 g0 g0' g1 g1'
     go_wp2
     go_roundg gk'
     case measure=>omega
     case rel=>exact⟨i+1,by go_num,HN.out.1,HN.out.2,HF⟩
    ·obtain rfl:L5=i:=by omega
     have hltz: ¬(L5:Int)< (L5:Int):=by omega
     clear hgk
     go_wp2_with fail
     clear u5 v5 hltz hlt hi
     go_loopg [7] (L6+1) (fun gk s wx=>∃(i:Nat),s=.int .i64 i∧i≤L6∧L6 - i<gk∧Hid (Below W0.heap.size W0 wx))
     case atStart=>exact⟨0,rfl,by omega,by omega,HI5⟩
     case round=>
      obtain⟨i,rfl,hi,hgk,HI6⟩:=hrel
      clear HI5
      obtain⟨u6,v6⟩:=HX6.out wr HI6.out
      by_cases hlt:i<L6
      ·have hltz:(i:Int)< (L6:Int):=by omega
       obtain⟨gk',rfl⟩: ∃g',gk=g'+1:=⟨gk - 1,by omega⟩
       have HN:=hd_ (ai_ (show i+1≤L6 from hlt) (show L6 - (i+1)<gk' by omega))
       have hix:i<xs6.length:=by rw[HL6.out.1];exact hlt
       have hbw:=below_then HB.out HI6.out (lr_ _)
       obtain⟨g,off,cs,rfl,hg,hcell,hold⟩:=(HL6.out.2.1.below hbw).at i hix
       obtain⟨g',off',cs',rfl,hg',hcell',hold'⟩:=(HL6.out.2.2.below hbw).at i hix
       obtain⟨y,hy⟩:=nm_ (xs6[i])
       rw[hy] at hold hold'
       clear hy
       obtain⟨e0,rfl,a,ca,rfl,h1,h2,h3⟩:=hold
       obtain⟨e0',rfl,a',ca',rfl,h1',h2',h3'⟩:=hold'
       obtain⟨n,hn⟩:=nm_ (y.length)
       have hE:=fun W (hW:Below wr.heap.size wr W)=>ralike_self _ _ a a' n ca ca' y W hn (h3.below hW) (h3'.below hW) (by omega) h2 (by omega) h2'
       rw[hn] at hcell hcell'
       have e0:=hcell 0 _ rfl
       have e0':=hcell' 0 _ rfl
       rw[show nmE.sz=1 from rfl] at e0 e0'
       simp only[Nat.add_zero,Nat.mul_one] at e0 e0'
       have g0:=fun(d:Nat) (os:Array Obj)=>cell_on (below_regrown wr d os) e0
       have g0':=fun(d:Nat) (os:Array Obj)=>cell_on (below_regrown wr d os) e0'
       have f0:=fun(d:Nat) (os:Array Obj)=>cell_on (below_regrown wr d os) u6
       have f1:=fun(d:Nat) (os:Array Obj)=>cell_on (below_regrown wr d os) v6
       have i1:(0:Int)≤(i:Int):=by omega
       have HE:=hd_ (fun(d:Nat) (os:Array Obj)=>hE _ (below_regrown wr d os))
       clear hE hcell hcell' hgk hbw e0 e0' h1 h2 h3 h1' h2' h3' hn
       go_wp2_with fail
       clear u6 v6
       try dsimp only
       refine wp_region_quiet_below (by kernel_rfl) (by kernel_rfl) ?_
       repeat (go_big_quiet_step ((first | (go_at_call 31;refine Calls.regrown_of (HE.out _ _)))))
       refine wpQuiet_nil ?_
       intro _ hw'
       obtain⟨⟨nq,osq⟩,hw''⟩:=hw'
       subst hw''
       have HF:=hd_ (below_then HI6.out (below_regrown wr nq osq) (lr_ _))
       clear f0 f1 g0 g0'
       go_wp2
       go_roundg gk'
       case measure=>omega
       case rel=>exact⟨i+1,by go_num,HN.out.1,HN.out.2,HF⟩
      ·obtain rfl:L6=i:=by omega
       have hltz: ¬(L6:Int)< (L6:Int):=by omega
       clear hgk
       go_wp2_with fail
       clear u6 v6 hltz hlt hi
       go_loopg [8] (L7+1) (fun gk s wx=>∃(i:Nat),s=.int .i64 i∧i≤L7∧L7 - i<gk∧Hid (Below W0.heap.size W0 wx))
       case atStart=>exact⟨0,rfl,by omega,by omega,HI6⟩
       case round=>
        obtain⟨i,rfl,hi,hgk,HI7⟩:=hrel
        clear HI6
        obtain⟨u7,v7⟩:=HX7.out wr HI7.out
        by_cases hlt:i<L7
        ·have hltz:(i:Int)< (L7:Int):=by omega
         obtain⟨gk',rfl⟩: ∃g',gk=g'+1:=⟨gk - 1,by omega⟩
         have HN:=hd_ (ai_ (show i+1≤L7 from hlt) (show L7 - (i+1)<gk' by omega))
         have hix:i<xs7.length:=by rw[HL7.out.1];exact hlt
         have hbw:=below_then HB.out HI7.out (lr_ _)
         obtain⟨g,off,cs,rfl,hg,hcell,hold⟩:=(HL7.out.2.1.below hbw).at i hix
         obtain⟨g',off',cs',rfl,hg',hcell',hold'⟩:=(HL7.out.2.2.below hbw).at i hix
         obtain⟨y,hy⟩:=nm_ (xs7[i])
         rw[hy] at hold hold'
         clear hy
         obtain⟨e0,rfl,a,ca,rfl,h1,h2,h3⟩:=hold
         obtain⟨e0',rfl,a',ca',rfl,h1',h2',h3'⟩:=hold'
         obtain⟨n,hn⟩:=nm_ (y.length)
         have hE:=fun W (hW:Below wr.heap.size wr W)=>ralike_self _ _ a a' n ca ca' y W hn (h3.below hW) (h3'.below hW) (by omega) h2 (by omega) h2'
         rw[hn] at hcell hcell'
         have e0:=hcell 0 _ rfl
         have e0':=hcell' 0 _ rfl
         rw[show nmE.sz=1 from rfl] at e0 e0'
         simp only[Nat.add_zero,Nat.mul_one] at e0 e0'
         have g0:=fun(d:Nat) (os:Array Obj)=>cell_on (below_regrown wr d os) e0
         have g0':=fun(d:Nat) (os:Array Obj)=>cell_on (below_regrown wr d os) e0'
         have f0:=fun(d:Nat) (os:Array Obj)=>cell_on (below_regrown wr d os) u7
         have f1:=fun(d:Nat) (os:Array Obj)=>cell_on (below_regrown wr d os) v7
         have i1:(0:Int)≤(i:Int):=by omega
         have HE:=hd_ (fun(d:Nat) (os:Array Obj)=>hE _ (below_regrown wr d os))
         clear hE hcell hcell' hgk hbw e0 e0' h1 h2 h3 h1' h2' h3' hn
         go_wp2_with fail
         clear u7 v7
         try dsimp only
         refine wp_region_quiet_below (by kernel_rfl) (by kernel_rfl) ?_
         repeat (go_big_quiet_step ((first | (go_at_call 31;refine Calls.regrown_of (HE.out _ _)))))
         refine wpQuiet_nil ?_
         intro _ hw'
         obtain⟨⟨nq,osq⟩,hw''⟩:=hw'
         subst hw''
         have HF:=hd_ (below_then HI7.out (below_regrown wr nq osq) (lr_ _))
         clear f0 f1 g0 g0'
         go_wp2
         go_roundg gk'
         case measure=>omega
         case rel=>exact⟨i+1,by go_num,HN.out.1,HN.out.2,HF⟩
        ·obtain rfl:L7=i:=by omega
         have hltz: ¬(L7:Int)< (L7:Int):=by omega
         clear hgk
         go_wp2_with fail
         clear u7 v7 hltz hlt hi
         go_loopg [9] (L8+1) (fun gk s wx=>∃(i:Nat),s=.int .i64 i∧i≤L8∧L8 - i<gk∧Hid (Below W0.heap.size W0 wx))
         case atStart=>exact⟨0,rfl,by omega,by omega,HI7⟩
         case round=>
          obtain⟨i,rfl,hi,hgk,HI8⟩:=hrel
          clear HI7
          obtain⟨u8,v8⟩:=HX8.out wr HI8.out
          by_cases hlt:i<L8
          ·have hltz:(i:Int)< (L8:Int):=by omega
           obtain⟨gk',rfl⟩: ∃g',gk=g'+1:=⟨gk - 1,by omega⟩
           have HN:=hd_ (ai_ (show i+1≤L8 from hlt) (show L8 - (i+1)<gk' by omega))
           have hix:i<xs8.length:=by rw[HL8.out.1];exact hlt
           have hbw:=below_then HB.out HI8.out (lr_ _)
           obtain⟨g,off,cs,rfl,hg,hcell,hold⟩:=(HL8.out.2.1.below hbw).at i hix
           obtain⟨g',off',cs',rfl,hg',hcell',hold'⟩:=(HL8.out.2.2.below hbw).at i hix
           obtain⟨y,hy⟩:=nm_ (xs8[i])
           rw[hy] at hold hold'
           clear hy
           obtain⟨e0,e1,e2,rfl,⟨a,la,ca,rfl,h1,h2,h3,h4⟩,rfl,⟨b,lb,cb,rfl,m1,m2,m3,m4⟩⟩:=hold
           obtain⟨e0',e1',e2',rfl,⟨a',la',ca',rfl,h1',h2',h3',h4'⟩,rfl,⟨b',lb',cb',rfl,m1',m2',m3',m4'⟩⟩:=hold'
           have hE:=fun W (hW:Below wr.heap.size wr W)=>isame_b a a' la ca la' ca' y.oid y.oid W (h3.below hW) (h3'.below hW) (Nat.le_trans h1 h2)
           rw[decide_eq_true rfl] at hE
           have hv:=fun(d:Nat) (os:Array Obj)=>intc.str_now (m3.below (below_regrown wr d os)) cb
           have hv':=fun(d:Nat) (os:Array Obj)=>intc.str_now (m3'.below (below_regrown wr d os)) cb'
           obtain⟨S,hS⟩:=nm_ (strOfNums y.body)
           rw[hS] at hv hv'
           obtain⟨cr,hcr⟩:=nm_ (y.crit)
           rw[hcr] at hcell hcell'
           have zc:(cr !=cr)=false:=by cases cr<;>rfl
           clear hS hcr m1 m2 m3 m4 m1' m2' m3' m4' h4 h4'
           have e0:=hcell 0 _ rfl
           have e0':=hcell' 0 _ rfl
           have e1:=hcell 1 _ rfl
           have e1':=hcell' 1 _ rfl
           have e2:=hcell 2 _ rfl
           have e2':=hcell' 2 _ rfl
           rw[show odE.sz=3 from rfl] at e0 e0' e1 e1' e2 e2'
           simp only[Nat.add_zero,Nat.mul_one] at e0 e0' e1 e1' e2 e2'
           have g0:=fun(d:Nat) (os:Array Obj)=>cell_on (below_regrown wr d os) e0
           have g0':=fun(d:Nat) (os:Array Obj)=>cell_on (below_regrown wr d os) e0'
           have g1:=fun(d:Nat) (os:Array Obj)=>cell_on (below_regrown wr d os) e1
           have g1':=fun(d:Nat) (os:Array Obj)=>cell_on (below_regrown wr d os) e1'
           have g2:=fun(d:Nat) (os:Array Obj)=>cell_on (below_regrown wr d os) e2
           have g2':=fun(d:Nat) (os:Array Obj)=>cell_on (below_regrown wr d os) e2'
           have f0:=fun(d:Nat) (os:Array Obj)=>cell_on (below_regrown wr d os) u8
           have f1:=fun(d:Nat) (os:Array Obj)=>cell_on (below_regrown wr d os) v8
           have i1:(0:Int)≤(i:Int):=by omega
           have HE:=hd_ (fun(d:Nat) (os:Array Obj)=>hE _ (below_regrown wr d os))
           clear hE hcell hcell' hgk hbw e0 e0' e1 e1' e2 e2' h1 h2 h3 h1' h2' h3'
           go_wp2_with fail
           clear u8 v8
           try dsimp only
           refine wp_region_quiet_below (by kernel_rfl) (by kernel_rfl) ?_
           repeat (go_big_quiet_step ((first | (go_at_call 66;refine Calls.regrown_of (HE.out _ _)))))
           refine wpQuiet_nil ?_
           intro _ hw'
           obtain⟨⟨nq,osq⟩,hw''⟩:=hw'
           subst hw''
           have HF:=hd_ (below_then HI8.out (below_regrown wr nq osq) (lr_ _))
           clear f0 f1 g0 g0' g1 g1' g2 g2' hv hv'
           go_wp2
           go_roundg gk'
           case measure=>omega
           case rel=>exact⟨i+1,by go_num,HN.out.1,HN.out.2,HF⟩
          ·obtain rfl:L8=i:=by omega
           have hltz: ¬(L8:Int)< (L8:Int):=by omega
           clear hgk
           go_wp2
           go_ret
           exact⟨rfl,below_then HB.out HI8.out (lr_ _)⟩
end Go.Proofs.YtjanfogifehhmaaGreatDoor.nmc
