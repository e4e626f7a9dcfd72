/- The document's odd and Right of extensions. -/
import Derived.Test.YtkjkhoglkpepiaaGreatDoorBa
import Derived.Test.YtkjkhoglkpepiaaGreatDoorAq
set_option maxRecDepth 100000
set_option maxHeartbeats 8000000
set_option linter.unusedVariables false
set_option linter.unusedSimpArgs false
namespace Go.Proofs.YtkjkhoglkpepiaaGreatDoor.nmc
open Go.RowKit tlvc tlvd ndc txc txm intc intm
theorem which_known {o:List Int}:whichF o<0↔o∉knownOids:=by
 constructor
 ·intro h hm
  simp only[knownOids,List.mem_cons,List.mem_nil_iff,or_false] at hm
  rcases hm with rfl |rfl |rfl |rfl |rfl
  ·exact absurd h (by decide)
  ·exact absurd h (by decide)
  ·exact absurd h (by decide)
  ·exact absurd h (by decide)
  ·exact absurd h (by decide)
 ·intro h
  rw[which_no h]
  decide
theorem odds_at {xs:List Od}{i:Nat}(hi:i<xs.length):oddsX (knownOids++(xs.take i).map Od.oid) (xs.drop i)=(objB xs[i].oid && decide (xs[i].body.length≤1024) && !decide (xs[i].oid∈knownOids++(xs.take i).map Od.oid) && oddsX (knownOids++(xs.take (i+1)).map Od.oid) (xs.drop (i+1))):=by
 rw[List.drop_eq_getElem_cons hi]
 show(objB xs[i].oid && decide (xs[i].body.length≤1024) && !decide (xs[i].oid∈knownOids++(xs.take i).map Od.oid) && oddsX ((knownOids++(xs.take i).map Od.oid)++[xs[i].oid]) (xs.drop (i+1)))=_
 rw[List.take_succ_eq_append_getElem hi,List.map_append,List.append_assoc]
 rfl
def oddD (xs:List Od)(n:Nat)(i:Nat):Bool:=oddsX (knownOids++(xs.take i).map Od.oid) (xs.drop i) && decide (n≤16)
theorem oddD_1 {xs:List Od}{n i:Nat}(hi:i<xs.length)(h:objB xs[i].oid=false):oddD xs n i=false:=by
 unfold oddD;rw[odds_at hi,h];simp
theorem oddD_2 {xs:List Od}{n i:Nat}(hi:i<xs.length)(h:0≤whichF xs[i].oid):oddD xs n i=false:=by
 have hk:xs[i].oid∈knownOids:=Classical.byContradiction fun hc=>by have:=which_known.2 hc;omega
 unfold oddD;rw[odds_at hi,decide_eq_true (List.mem_append.2 (.inl hk))];simp
theorem oddD_3 {xs:List Od}{n i:Nat}(hi:i<xs.length)(h:1024<xs[i].body.length):oddD xs n i=false:=by
 unfold oddD;rw[odds_at hi,decide_eq_false (by omega)];simp
theorem oddD_4 {xs:List Od}{n i k:Nat}(hi:i<xs.length)(hk:k<i)(h:(xs[k]'(by omega)).oid=xs[i].oid):oddD xs n i=false:=by
 have hm:xs[i].oid∈(xs.take i).map Od.oid:=List.mem_map.2 ⟨xs[k]'(by omega),List.mem_take_iff_getElem.2 ⟨k,by omega,rfl⟩,h⟩
 unfold oddD;rw[odds_at hi,decide_eq_true (List.mem_append.2 (.inr hm))];simp
theorem oddD_5 {xs:List Od}{n i:Nat}(hi:i<xs.length)(h1:objB xs[i].oid=true)(h2: ¬0≤whichF xs[i].oid)(h3: ¬1024<xs[i].body.length)(h4: ∀k (hk:k<i),(xs[k]'(by omega)).oid≠xs[i].oid):oddD xs n (i+1)=oddD xs n i:=by
 have hn:xs[i].oid∉knownOids++(xs.take i).map Od.oid:=fun hm=>by
  rcases List.mem_append.1 hm with hm |hm
  ·exact which_known.1 (by omega) hm
  ·obtain⟨o,ho,he⟩:=List.mem_map.1 hm
   obtain⟨k,hk,rfl⟩:=List.mem_take_iff_getElem.1 ho
   exact h4 k (by omega) he
 unfold oddD
 rw[odds_at hi,h1,decide_eq_true (show xs[i].body.length≤1024 by omega),decide_eq_false hn]
 simp
theorem rodd_any (B:Nat→Prop)(A:Option Addr)(n c:Nat)(xs:List Od)(w:World)(hl:xs.length=n)(hL:Lst odE B w A xs)(hc:n≤c)(hm:c≤maxLen):
 Calls Tryz.prog 70 #[.slice A n c] w fun e w'=>e=.returned (.bool (oddsX knownOids xs && decide (n≤16)))∧Below w.heap.size w w':=by
 have h9:c≤9223372036854775807:=by unfold maxLen at hm;omega
 obtain⟨R,hR⟩:=nm_ ((oddsX knownOids xs && decide (n≤16)))
 rw[hR]
 have HR:=hd_ (show oddD xs n 0=R by rw[←hR];unfold oddD;rw[List.take_zero,List.map_nil,List.append_nil,List.drop_zero])
 have HL:=hd_ (ai_ hl hL)
 clear hl hL hR hm
 go_enter Tryz.func70,Tryz.ntmps70
 go_wp2_with fail
 go_loopg [3] (n+1) (fun gk s wx=>∃(i:Nat),s=.int .i64 i∧i≤n∧n - i<gk∧Hid (oddD xs n i=R∧Below w.heap.size w wx))
 case atStart=>exact⟨0,rfl,by omega,by omega,hd_ ⟨HR.out,br_ _ _⟩⟩
 case round=>
  obtain⟨i,rfl,hi,hgk,HI⟩:=hrel
  clear HR
  by_cases hlt:i<n
  ·have hltz:(i:Int)< (n:Int):=by omega
   obtain⟨gko,rfl⟩: ∃g',gk=g'+1:=⟨gk - 1,by omega⟩
   have HN:=hd_ (ai_ (show i+1≤n from hlt) (show n - (i+1)<gko by omega))
   have hix:i<xs.length:=by rw[HL.out.1];exact hlt
   obtain⟨g,off,cs,rfl,hg,hcell,hold⟩:=(HL.out.2.below HI.out.2).at i hix
   obtain⟨e0,e1,e2,rfl,⟨a,la,ca,rfl,h1,h2,h3,_⟩,rfl,⟨b,lb,cb,rfl,m1,m2,m3,_⟩⟩:=hold
   obtain⟨y,hy⟩:=nm_ (xs[i])
   have k1:=oddD_1 (n:=n) hix
   have k2:=oddD_2 (n:=n) hix
   have k3:=oddD_3 (n:=n) hix
   have k4:=fun k hk=>oddD_4 (n:=n) (k:=k) hix hk
   have k5:=oddD_5 (n:=n) hix
   rw[hy] at k1 k2 k3 k5 h3 m3 hcell
   simp only[hy] at k4
   rw[HI.out.1] at k1 k2 k3 k5
   simp only[HI.out.1] at k4
   have x0:=hcell 0 _ rfl
   have x2:=hcell 2 _ rfl
   rw[show odE.sz=3 from rfl] at x0 x2
   rw[Nat.add_zero] at x0
   have hlb:y.body.length=lb:=m3.1
   rw[hlb] at k3 k5
   have HX:=hd_ (fun W (hW:Below wr.heap.size wr W)=>ai_ (cell_on hW x0) (cell_on hW x2))
   have hC:=refObject_any a la ca y.oid wr h3 h1 h2
   have hWh:=fun W (hW:Below wr.heap.size wr W)=>rwhich_any a la ca y.oid W (h3.below hW) h1 h2
   have hSa:=fun(A1:Option Addr) (l1 k1:Nat) (zs:List Int) W (hW:Below wr.heap.size wr W) (hz:Ins W A1 l1 zs) (hl:l1≤maxLen)=>isame_b A1 a l1 k1 la ca zs y.oid W hz (h3.below hW) hl
   obtain⟨ob,hob⟩:=nm_ (objB y.oid)
   obtain⟨v,hv⟩:=nm_ (whichF y.oid)
   rw[hob] at hC k1 k5
   rw[hv] at k2 k5
   simp only[hv] at hWh
   have HC:=hd_ hC
   have HW:=hd_ hWh
   have HS:=hd_ hSa
   have HK:=hd_ (ai_ k1 (ai_ k2 (ai_ k3 (ai_ k4 k5))))
   have HB:=hd_ HI.out.2
   have HY:=hd_ hy
   have i1:(0:Int)≤(i:Int):=by omega
   clear hC hWh hSa k1 k2 k3 k4 k5 hob hv hlb h1 h2 h3 m1 m2 m3 hcell x2 hgk HI hy
   go_wp2_with fail
   refine HC.out.mono ?_
   rintro e w1 ⟨rfl,q,hq⟩
   have hb1:Below wr.heap.size wr w1:=by rw[hq];exact below_drewN (w:=wr) q
   clear hq HC x0
   obtain⟨x0,x2⟩:=HX.out w1 hb1
   have HW1:=hd_ (HW.out w1 hb1)
   have HB1:=hd_ hb1
   clear hb1 HW
   cases ob
   ·have hRf:R=false:=HK.out.1 rfl
    subst hRf
    have HF:=hd_ (below_then HB.out HB1.out (lr_ _))
    clear HK
    go_wp2
    go_ret
    exact⟨rfl,HF.out⟩
   ·go_wp2_with fail
    refine HW1.out.mono ?_
    rintro e w2 ⟨rfl,hb2⟩
    have HB2:=hd_ (below_then HB1.out hb2 (lr_ _))
    clear x0 x2
    obtain⟨x0,x2⟩:=HX.out w2 HB2.out
    clear hb2 HW1
    by_cases hv:0≤v
    ·have hRf:R=false:=HK.out.2.1 hv
     subst hRf
     have HF:=hd_ (below_then HB.out HB2.out (lr_ _))
     clear HK
     go_wp2
     go_ret
     exact⟨rfl,HF.out⟩
    ·by_cases hl:1024<lb
     ·have hRf:R=false:=HK.out.2.2.1 hl
      subst hRf
      have hlz:(1024:Int)< (lb:Int):=by omega
      have HF:=hd_ (below_then HB.out HB2.out (lr_ _))
      clear HK
      go_wp2
      go_ret
      exact⟨rfl,HF.out⟩
     ·have hlz: ¬(1024:Int)< (lb:Int):=by omega
      have H5:=hd_ (fun h4=>HK.out.2.2.2.2 (by first |rfl |trivial) (by omega) (by omega) h4)
      have H4:=hd_ HK.out.2.2.2.1
      clear HK hlt hi
      go_wp2_with fail
      clear x0 x2 hv hl hlz hltz
      go_loopg [5] (i+1) (fun gk s wx=>∃(k:Nat),s=.int .i64 k∧k≤i∧i - k<gk∧Hid ((∀j (hj:j<k) (hx:j<xs.length),(xs[j]'hx).oid≠y.oid)∧Below w2.heap.size w2 wx))
      case atStart=>exact⟨0,rfl,by omega,by omega,hd_ ⟨fun j hj=>absurd hj (Nat.not_lt_zero _),br_ _ _⟩⟩
      case round=>
       obtain⟨k,rfl,hk,hgk,HJ⟩:=hrel
       by_cases hlt:k<i
       ·have hltz:(k:Int)< (i:Int):=by omega
        obtain⟨gk',rfl⟩: ∃g',gk=g'+1:=⟨gk - 1,by omega⟩
        have HM:=hd_ (ai_ (show k+1≤i from hlt) (show i - (k+1)<gk' by omega))
        have hkx:k<xs.length:=by omega
        have hkn:k<n:=by have:=HL.out.1;omega
        have hin:i<n:=by have:=HL.out.1;omega
        have hbk:=below_then HB2.out HJ.out.2 (lr_ _)
        obtain⟨g',off',cs',heq,hg',hcell,hold⟩:=(HL.out.2.below (below_then HB.out hbk (lr_ _))).at k hkx
        simp only[Option.some.injEq,Addr.mk.injEq,and_true] at heq
        obtain⟨rfl,rfl⟩:=heq
        obtain⟨e0,e1,e2,rfl,⟨a',la',ca',rfl,h1,h2,h3,_⟩,rfl,_⟩:=hold
        have x0:=hcell 0 _ rfl
        rw[show odE.sz=3 from rfl] at x0
        rw[Nat.add_zero] at x0
        have z0:=(HX.out _ hbk).1
        have hE:=fun W (hW:Below wr.heap.size wr W)=>HS.out a' la' ca' _ W (below_then hbk hW (lr_ _)) (h3.below hW) (Nat.le_trans h1 h2)
        have hk4:=H4.out k hlt
        obtain⟨d,hd⟩:=nm_ (decide (xs[k].oid=y.oid))
        rw[hd] at hE
        have HE:=hd_ (fun(d:Nat) (os:Array Obj)=>hE _ (below_regrown wr d os))
        have HD:=hd_ (ai_ hd hk4)
        have g0:=fun(d:Nat) (os:Array Obj)=>cell_on (below_regrown wr d os) x0
        have g1:=fun(d:Nat) (os:Array Obj)=>cell_on (below_regrown wr d os) z0
        have j1:(0:Int)≤(k:Int):=by omega
        have j2:(k:Int)< (n:Int):=by omega
        have j3:(i:Int)< (n:Int):=by omega
        clear hE hd hk4 x0 z0 h1 h2 h3 hcell hgk hbk
        cases d
        ·go_wp2_with fail
         try dsimp only
         refine wp_region_quiet_below (by kernel_rfl) (by kernel_rfl) ?_
         repeat (go_big_quiet_step ((first | (go_at_call 150;refine Calls.regrown_of (HE.out _ _)))))
         refine wpQuiet_nil ?_
         intro _ hw'
         obtain⟨⟨nq,osq⟩,hw''⟩:=hw'
         subst hw''
         have HF:=hd_ (show(∀j (hj:j<k+1) (hx:j<xs.length),(xs[j]'hx).oid≠y.oid)∧_ from⟨fun j hj hx=>by
          rcases Nat.lt_succ_iff_lt_or_eq.1 hj with hj |hj
          ·exact HJ.out.1 j hj hx
          ·subst hj
           exact of_decide_eq_false HD.out.1,below_then HJ.out.2 (below_regrown wr nq osq) (lr_ _)⟩)
         have hib:(k:Int)+1≤9223372036854775807:=by have h1:=HM.out.1;have h2:=HN.out.1;omega
         clear g0 g1 HE HD HJ
         go_wp2
         go_roundg gk'
         case measure=>omega
         case rel=>exact⟨k+1,by go_num,HM.out.1,HM.out.2,HF⟩
        ·have hRf:R=false:=HD.out.2 (of_decide_eq_true HD.out.1)
         subst hRf
         go_wp2_with fail
         try dsimp only
         refine wp_region_quiet_below (by kernel_rfl) (by kernel_rfl) ?_
         repeat (go_big_quiet_step ((first | (go_at_call 150;refine Calls.regrown_of (HE.out _ _)))))
         refine wpQuiet_nil ?_
         intro _ hw'
         obtain⟨⟨nq,osq⟩,hw''⟩:=hw'
         subst hw''
         have HF:=hd_ (below_then HB.out (below_then HB2.out (below_then HJ.out.2 (below_regrown wr nq osq) (lr_ _)) (lr_ _)) (lr_ _))
         clear g0 g1 HE HD HJ H4 H5
         go_wp2
         go_ret
         exact⟨rfl,HF.out⟩
       ·obtain rfl:k=i:=by omega
        have hltz: ¬(k:Int)< (k:Int):=by omega
        have HF:=hd_ (ai_ (show oddD xs n (k+1)=R from H5.out (fun j hj=>HJ.out.1 j hj _)) (below_then HB.out (below_then HB2.out HJ.out.2 (lr_ _)) (lr_ _)))
        have hib:(k:Int)+1≤9223372036854775807:=by have h2:=HN.out.1;omega
        clear hgk HJ H4 H5
        go_wp2
        go_roundg gko
        case measure=>omega
        case rel=>exact⟨k+1,by go_num,HN.out.1,HN.out.2,HF⟩
  ·obtain rfl:n=i:=by omega
   have hltz: ¬(n:Int)< (n:Int):=by omega
   have hRe:decide (n≤16)=R:=by
    have h:=HI.out.1
    unfold oddD at h
    rw[List.drop_of_length_le (Nat.le_of_eq HL.out.1)] at h
    simpa[oddsX] using h
   have HW:=hd_ HI.out.2
   subst hRe
   clear hgk HI
   by_cases hn:n≤16
   ·have hnz:(n:Int)≤16:=by omega
    go_wp2
    go_ret
    exact⟨by simp[hn],HW.out⟩
   ·have hnz: ¬(n:Int)≤16:=by omega
    go_wp2
    go_ret
    exact⟨by simp[hn],HW.out⟩
theorem all_no' {α:Type}{P:α→Bool}{l:List α}{i:Nat}(hi:i<l.length):(l.drop i).all P=(P l[i] && (l.drop (i+1)).all P):=by rw[List.drop_eq_getElem_cons hi,List.all_cons]
theorem rrightX_any (B:Nat→Prop)(x:Ex)(c0 c1 c2 c3 c4 c5 c6 c7 c8:Value)(w:World)(hx:ExC B w x c0 c1 c2 c3 c4 c5 c6 c7 c8)(hT:Tabs w):
 Calls Tryz.prog 30 #[.agg #[c0,c1,c2,c3,c4,c5,c6,c7,c8]] w fun e w'=>e=.returned (.bool (rightX x))∧Below w.heap.size w w':=by
 obtain⟨A4,k4,rfl,kc4,km4,hA4⟩:=hx.eku
 obtain⟨A5,k5,rfl,kc5,km5,hA5⟩:=hx.princs
 obtain⟨A6,k6,rfl,kc6,km6,hA6⟩:=hx.permit
 obtain⟨A7,k7,rfl,kc7,km7,hA7⟩:=hx.exclude
 obtain⟨A8,k8,rfl,kc8,km8,hA8⟩:=hx.odd
 obtain rfl:=hx.has
 obtain rfl:=hx.ca
 obtain rfl:=hx.path
 obtain rfl:=hx.usage
 have hrx:rightX x=(boundedX x && oddsX knownOids x.odd && (x.eku.all objB && x.princs.all rightP && (x.permit.all rightN && x.exclude.all rightN))):=rfl
 unfold boundedX at hrx
 obtain⟨R,hR⟩:=nm_ (rightX x)
 rw[hR] at hrx⊢
 clear hx hR
 obtain⟨xs4,hxs4⟩:=nm_ (x.eku)
 rw[hxs4] at kc4 hA4 hrx⊢
 obtain⟨L4,hL4⟩:=nm_ (xs4.length)
 rw[hL4] at kc4 hrx⊢
 have q4:k4≤9223372036854775807:=by unfold maxLen at km4;omega
 clear hxs4
 obtain⟨xs5,hxs5⟩:=nm_ (x.princs)
 rw[hxs5] at kc5 hA5 hrx⊢
 obtain⟨L5,hL5⟩:=nm_ (xs5.length)
 rw[hL5] at kc5 hrx⊢
 have q5:k5≤9223372036854775807:=by unfold maxLen at km5;omega
 clear hxs5
 obtain⟨xs6,hxs6⟩:=nm_ (x.permit)
 rw[hxs6] at kc6 hA6 hrx⊢
 obtain⟨L6,hL6⟩:=nm_ (xs6.length)
 rw[hL6] at kc6 hrx⊢
 have q6:k6≤9223372036854775807:=by unfold maxLen at km6;omega
 clear hxs6
 obtain⟨xs7,hxs7⟩:=nm_ (x.exclude)
 rw[hxs7] at kc7 hA7 hrx⊢
 obtain⟨L7,hL7⟩:=nm_ (xs7.length)
 rw[hL7] at kc7 hrx⊢
 have q7:k7≤9223372036854775807:=by unfold maxLen at km7;omega
 clear hxs7
 obtain⟨xs8,hxs8⟩:=nm_ (x.odd)
 rw[hxs8] at kc8 hA8 hrx⊢
 obtain⟨L8,hL8⟩:=nm_ (xs8.length)
 rw[hL8] at kc8 hrx⊢
 have q8:k8≤9223372036854775807:=by unfold maxLen at km8;omega
 clear hxs8
 obtain⟨b0,hb0⟩:=nm_ (x.hasCA)
 obtain⟨b1,hb1⟩:=nm_ (x.ca)
 obtain⟨b2,hb2⟩:=nm_ (x.path)
 obtain⟨b3,hb3⟩:=nm_ (x.usage)
 rw[hb0,hb1,hb2] at hrx
 rw[hb0,hb1,hb2,hb3]
 clear hb0 hb1 hb2 hb3
 obtain⟨P4,hP4⟩:=nm_ (xs4.all objB)
 obtain⟨P5,hP5⟩:=nm_ (xs5.all rightP)
 rw[hP4,hP5] at hrx
 obtain⟨W0,hW0⟩:=nm_ (w.alloc (.cells #[.bool b0,.bool b1,.int .i64 b2,.int .u16 b3,.slice A4 L4 k4,.slice A5 L5 k5,.slice A6 L6 k6,.slice A7 L7 k7,.slice A8 L8 k8] 30))
 have hb0:Below w.heap.size w W0:=by rw[←hW0];exact below_new _ _
 have q0:W0.heap[w.heap.size]? =some (.cells #[.bool b0,.bool b1,.int .i64 b2,.int .u16 b3,.slice A4 L4 k4,.slice A5 L5 k5,.slice A6 L6 k6,.slice A7 L7 k7,.slice A8 L8 k8] 30):=by rw[←hW0];exact heap_new_ _ _
 obtain⟨s0,s1,s2,s3,s4,s5,s6,s7,s8⟩:=box9 (br_ _ W0) q0
 have HX4:=hd_ (fun W (hW:Below W0.heap.size W0 W)=>cell_on hW s4)
 have HX5:=hd_ (fun W (hW:Below W0.heap.size W0 W)=>cell_on hW s5)
 have HX6:=hd_ (fun W (hW:Below W0.heap.size W0 W)=>cell_on hW s6)
 have HX7:=hd_ (fun W (hW:Below W0.heap.size W0 W)=>cell_on hW s7)
 have HX8:=hd_ (fun W (hW:Below W0.heap.size W0 W)=>cell_on hW s8)
 have HL4:=hd_ (ai_ hL4 (ai_ hA4 kc4))
 have HL5:=hd_ (ai_ hL5 (ai_ hA5 kc5))
 have hn6:=fun W (hW:Below w.heap.size w W)=>rnames_any B A6 L6 k6 xs6 W hL6 (hA6.below hW) kc6 km6 (hT.below hW)
 have hn7:=fun W (hW:Below w.heap.size w W)=>rnames_any B A7 L7 k7 xs7 W hL7 (hA7.below hW) kc7 km7 (hT.below hW)
 have hn8:=fun W (hW:Below w.heap.size w W)=>rodd_any B A8 L8 k8 xs8 W hL8 (hA8.below hW) kc8 km8
 obtain⟨B6,hB6⟩:=nm_ ((xs6.all rightN && decide (L6≤16)))
 obtain⟨B7,hB7⟩:=nm_ ((xs7.all rightN && decide (L7≤16)))
 obtain⟨B8,hB8⟩:=nm_ ((oddsX knownOids xs8 && decide (L8≤16)))
 have hrx2:R=(decide (L4≤16) && decide (L5≤16) && (if b1=true then b0 && decide (-1≤b2) && decide (b2≤100) else decide (b2=0)) && (P4 && (P5 && (B6 && (B7 && B8))))):=by
  rw[hrx,←hB6,←hB7,←hB8]
  generalize decide (L4≤16)=a1
  generalize decide (L5≤16)=a2
  generalize decide (L6≤16)=a3
  generalize decide (L7≤16)=a4
  generalize decide (L8≤16)=a5
  generalize (if b1=true then b0 && decide (-1≤b2) && decide (b2≤100) else decide (b2=0))=a6
  generalize oddsX knownOids xs8=a7
  generalize xs6.all rightN=a8
  generalize xs7.all rightN=a9
  cases a1<;>cases a2<;>cases a6<;>cases P4<;>cases P5<;>cases a3<;>cases a4<;>cases a5<;>cases a7<;>cases a8<;>cases a9<;>rfl
 simp only[hB6] at hn6
 simp only[hB7] at hn7
 simp only[hB8] at hn8
 have HN6:=hd_ hn6
 have HN7:=hd_ hn7
 have HN8:=hd_ hn8
 have HR:=hd_ hrx2
 have HB:=hd_ hb0
 have HT:=hd_ hT
 have H4:=hd_ (show(xs4.drop 0).all objB=P4 by rw[List.drop_zero];exact hP4)
 have H5:=hd_ (show(xs5.drop 0).all rightP=P5 by rw[List.drop_zero];exact hP5)
 clear hrx hrx2 hn6 hn7 hn8 hB6 hB7 hB8 hP4 hP5 hb0 q0 hT hL4 hL5 hL6 hL7 hL8 hA4 hA5 hA6 hA7 hA8 kc4 kc5 kc6 kc7 kc8 km4 km5 km6 km7 km8
 by_cases hbad:(if b1=true then b0 && decide (-1≤b2) && decide (b2≤100) else decide (b2=0))=false
 ·have hRf:R=false:=by rw[HR.out,hbad];simp
  subst hRf
  clear HR HN6 HN7 HN8 HX4 HX5 HX6 HX7 HX8 HL4 HL5 H4 H5 s3 s4 s5 s6 s7 s8
  cases b1
  ·rw[if_neg (by decide)] at hbad
   have hp:b2≠0:=of_decide_eq_false hbad
   have hp2:(b2 !=0)=true:=by simpa using hp
   clear hbad
   go_enter Tryz.func30,Tryz.ntmps30
   go_wp2
   go_ret
   exact⟨rfl,HB.out⟩
  ·rw[if_pos rfl] at hbad
   cases b0
   ·clear hbad
    go_enter Tryz.func30,Tryz.ntmps30
    go_wp2
    go_ret
    exact⟨rfl,HB.out⟩
   ·by_cases h1: -1≤b2
    ·have h2: ¬b2≤100:=fun h=>by rw[decide_eq_true h1,decide_eq_true h] at hbad;cases hbad
     have h3:100<b2:=by omega
     have h4: ¬b2< -1:=by omega
     clear hbad
     go_enter Tryz.func30,Tryz.ntmps30
     go_wp2
     go_ret
     exact⟨rfl,HB.out⟩
    ·have h4:b2< -1:=by omega
     clear hbad
     go_enter Tryz.func30,Tryz.ntmps30
     go_wp2
     go_ret
     exact⟨rfl,HB.out⟩
 ·have hgood:(b1=true∧b0=true∧¬b2< -1∧¬100<b2)∨(b1=false∧b2=0):=by
   cases b1
   ·rw[if_neg (by decide)] at hbad
    exact .inr ⟨rfl,by simpa using hbad⟩
   ·rw[if_pos rfl] at hbad
    cases b0
    ·exact absurd rfl hbad
    ·refine .inl ⟨rfl,rfl,fun h=>hbad (by simp;omega),fun h=>hbad (by simp;omega)⟩
  have hr2:R=(decide (L4≤16) && decide (L5≤16) && (P4 && (P5 && (B6 && (B7 && B8))))):=by
   have h:=HR.out
   rw[show(if b1=true then b0 && decide (-1≤b2) && decide (b2≤100) else decide (b2=0))=true from(by cases hz:(if b1=true then b0 && decide (-1≤b2) && decide (b2≤100) else decide (b2=0)) with |true=>rfl |false=>exact absurd hz hbad),Bool.and_true] at h
   exact h
  clear HR hbad
  have HR:=hd_ hr2
  clear hr2
  by_cases h4:16<L4
  ·have hRf:R=false:=by rw[HR.out,decide_eq_false (by omega)];rfl
   subst hRf
   have h4z:(16:Int)< (L4:Int):=by omega
   clear HR HN6 HN7 HN8 HX4 HX5 HX6 HX7 HX8 HL4 HL5 H4 H5 s3 s5 s6 s7 s8 h4
   rcases hgood with ⟨rfl,rfl,p1,p2⟩ | ⟨rfl,rfl⟩
   all_goals
    go_enter Tryz.func30,Tryz.ntmps30
    go_wp2
    go_ret
    exact⟨rfl,HB.out⟩
  by_cases h5:16<L5
  ·have hRf:R=false:=by rw[HR.out,decide_eq_false (show¬L5≤16 by omega)];simp
   subst hRf
   have h4z: ¬(16:Int)< (L4:Int):=by omega
   have h5z:(16:Int)< (L5:Int):=by omega
   clear HR HN6 HN7 HN8 HX4 HX5 HX6 HX7 HX8 HL4 HL5 H4 H5 s3 s6 s7 s8 h4 h5
   rcases hgood with ⟨rfl,rfl,p1,p2⟩ | ⟨rfl,rfl⟩
   all_goals
    go_enter Tryz.func30,Tryz.ntmps30
    go_wp2
    go_ret
    exact⟨rfl,HB.out⟩
  have hr3:R=(P4 && (P5 && (B6 && (B7 && B8)))):=by
   have h:=HR.out
   rw[decide_eq_true (show L4≤16 by omega),decide_eq_true (show L5≤16 by omega)] at h
   exact h
  clear HR
  have HR:=hd_ hr3
  have h4z: ¬(16:Int)< (L4:Int):=by omega
  have h5z: ¬(16:Int)< (L5:Int):=by omega
  clear hr3 h4 h5
  rcases hgood with ⟨rfl,rfl,p1,p2⟩ | ⟨rfl,rfl⟩
  all_goals
   go_enter Tryz.func30,Tryz.ntmps30
   go_wp2_with fail
   (try clear p1 p2)
   clear s0 s1 s2 s3 s4 s5 s6 s7 s8 h4z h5z
   go_loopg [3] (L4+1) (fun gk s wx=>∃(i:Nat),s=.int .i64 i∧i≤L4∧L4 - i<gk∧Hid ((xs4.drop i).all objB=P4∧Below W0.heap.size W0 wx))
   case atStart=>exact⟨0,rfl,by omega,by omega,hd_ ⟨H4.out,br_ _ _⟩⟩
   case round=>
    obtain⟨i,rfl,hi,hgk,HI4⟩:=hrel
    clear H4
    have u4:=HX4.out wr HI4.out.2
    by_cases hlt:i<L4
    ·have hltz:(i:Int)< (L4:Int):=by omega
     obtain⟨gk',rfl⟩: ∃g',gk=g'+1:=⟨gk - 1,by omega⟩
     have HN:=hd_ (ai_ (show i+1≤L4 from hlt) (show L4 - (i+1)<gk' by omega))
     have hix:i<xs4.length:=by rw[HL4.out.1];exact hlt
     have hbw:=below_then HB.out HI4.out.2 (lr_ _)
     obtain⟨g,off,cs,rfl,hg,hcell,hold⟩:=(HL4.out.2.1.below hbw).at i hix
     have hst:=all_no' (P:=objB) hix
     rw[HI4.out.1] at hst
     obtain⟨y,hy⟩:=nm_ (xs4[i])
     rw[hy] at hold hst
     clear hy
     obtain⟨e0,rfl,a,la,ca,rfl,h1,h2,h3,h4⟩:=hold
     have hC:=refObject_any a la ca y wr h3 h1 h2
     have e0:=hcell 0 _ rfl
     rw[show inE.sz=1 from rfl] at e0
     simp only[Nat.add_zero,Nat.mul_one] at e0
     obtain⟨ob,hob⟩:=nm_ (objB y)
     rw[hob] at hC hst
     have HC:=hd_ hC
     have HS:=hd_ hst
     have i1:(0:Int)≤(i:Int):=by omega
     clear hC hst hob hcell hgk hbw h1 h2 h3 h4
     go_wp2_with fail
     refine HC.out.mono ?_
     rintro e w1 ⟨rfl,q,hq⟩
     have hb1:Below wr.heap.size wr w1:=by rw[hq];exact below_drewN (w:=wr) q
     clear hq
     have HF:=hd_ (below_then HI4.out.2 hb1 (lr_ _))
     clear hb1 HC e0 u4
     cases ob
     ·have hPf:P4=false:=by have h:=HS.out;simpa using h
      subst hPf
      have hRf:R=false:=by rw[HR.out];rfl
      subst hRf
      have HE:=hd_ (below_then HB.out HF.out (lr_ _))
      clear HR HS HF HI4
      go_wp2
      go_ret
      exact⟨rfl,HE.out⟩
     ·have HS2:=hd_ (show(xs4.drop (i+1)).all objB=P4 by have h:=HS.out;rw[Bool.true_and] at h;exact h.symm)
      clear HS HI4
      have hib:(i:Int)+1≤9223372036854775807:=by have h1:=HN.out.1;have h2:=HL4.out.2.2;omega
      go_wp2
      go_roundg gk'
      case measure=>omega
      case rel=>exact⟨i+1,by go_num,HN.out.1,HN.out.2,hd_ ⟨HS2.out,HF.out⟩⟩
    ·obtain rfl:L4=i:=by omega
     have hltz: ¬(L4:Int)< (L4:Int):=by omega
     have hPt:P4=true:=by have h:=HI4.out.1;rw[List.drop_of_length_le (Nat.le_of_eq HL4.out.1)] at h;simpa using h.symm
     subst hPt
     have HW4:=hd_ HI4.out.2
     clear hgk HI4 hlt hi
     go_wp2_with fail
     clear u4 hltz
     go_loopg [5] (L5+1) (fun gk s wx=>∃(i:Nat),s=.int .i64 i∧i≤L5∧L5 - i<gk∧Hid ((xs5.drop i).all rightP=P5∧Below W0.heap.size W0 wx))
     case atStart=>exact⟨0,rfl,by omega,by omega,hd_ ⟨H5.out,HW4.out⟩⟩
     case round=>
      obtain⟨i,rfl,hi,hgk,HI5⟩:=hrel
      clear H5
      have u5:=HX5.out wr HI5.out.2
      by_cases hlt:i<L5
      ·have hltz:(i:Int)< (L5:Int):=by omega
       obtain⟨gk',rfl⟩: ∃g',gk=g'+1:=⟨gk - 1,by omega⟩
       have HN:=hd_ (ai_ (show i+1≤L5 from hlt) (show L5 - (i+1)<gk' by omega))
       have hix:i<xs5.length:=by rw[HL5.out.1];exact hlt
       have hbw:=below_then HB.out HI5.out.2 (lr_ _)
       obtain⟨g,off,cs,rfl,hg,hcell,hold⟩:=(HL5.out.2.1.below hbw).at i hix
       have hst:=all_no' (P:=rightP) hix
       rw[HI5.out.1] at hst
       obtain⟨y,hy⟩:=nm_ (xs5[i])
       rw[hy] at hold hst
       clear hy
       obtain⟨e0,e1,rfl,hp⟩:=hold
       have hC:=rrightP_any _ y e0 e1 wr hp (HT.out.below hbw)
       obtain⟨a,ca,rfl,rfl,_⟩:=hp
       have e0:=hcell 0 _ rfl
       have e1:=hcell 1 _ rfl
       rw[show prE.sz=2 from rfl] at e0 e1
       simp only[Nat.add_zero,Nat.mul_one] at e0 e1
       obtain⟨ob,hob⟩:=nm_ (rightP y)
       rw[hob] at hC hst
       have HC:=hd_ hC
       have HS:=hd_ hst
       have i1:(0:Int)≤(i:Int):=by omega
       clear hC hst hob hcell hgk hbw
       go_wp2_with fail
       refine HC.out.mono ?_
       rintro e w1 ⟨rfl,hb1⟩
       have HF:=hd_ (below_then HI5.out.2 hb1 (lr_ _))
       clear hb1 HC e0 e1 u5
       cases ob
       ·have hPf:P5=false:=by have h:=HS.out;simpa using h
        subst hPf
        have hRf:R=false:=by rw[HR.out];simp
        subst hRf
        have HE:=hd_ (below_then HB.out HF.out (lr_ _))
        clear HR HS HF HI5
        go_wp2
        go_ret
        exact⟨rfl,HE.out⟩
       ·have HS2:=hd_ (show(xs5.drop (i+1)).all rightP=P5 by have h:=HS.out;rw[Bool.true_and] at h;exact h.symm)
        clear HS HI5
        have hib:(i:Int)+1≤9223372036854775807:=by have h1:=HN.out.1;have h2:=HL5.out.2.2;omega
        go_wp2
        go_roundg gk'
        case measure=>omega
        case rel=>exact⟨i+1,by go_num,HN.out.1,HN.out.2,hd_ ⟨HS2.out,HF.out⟩⟩
      ·obtain rfl:L5=i:=by omega
       have hltz: ¬(L5:Int)< (L5:Int):=by omega
       have hPt:P5=true:=by have h:=HI5.out.1;rw[List.drop_of_length_le (Nat.le_of_eq HL5.out.1)] at h;simpa using h.symm
       subst hPt
       have HW5:=hd_ HI5.out.2
       clear hgk HI5 hlt hi
       have HRR:=hd_ (show R=(B6 && (B7 && B8)) from HR.out)
       clear HR
       have v6:=HX6.out wr HW5.out
       have HC6:=hd_ (HN6.out wr (below_then HB.out HW5.out (lr_ _)))
       go_wp2_with fail
       refine HC6.out.mono ?_
       rintro e w6 ⟨rfl,hb6⟩
       have HW6:=hd_ (below_then HW5.out hb6 (lr_ _))
       have v7:=HX7.out w6 HW6.out
       have HC7:=hd_ (HN7.out w6 (below_then HB.out HW6.out (lr_ _)))
       clear v6 hb6 HC6 u5
       go_wp2_with fail
       refine HC7.out.mono ?_
       rintro e w7 ⟨rfl,hb7⟩
       have HW7:=hd_ (below_then HW6.out hb7 (lr_ _))
       have v8:=HX8.out w7 HW7.out
       have HC8:=hd_ (HN8.out w7 (below_then HB.out HW7.out (lr_ _)))
       have HE7:=hd_ (below_then HB.out HW7.out (lr_ _))
       clear v7 hb7 HC7
       cases B6
       ·have hRf:R=false:=by rw[HRR.out];rfl
        subst hRf
        clear HRR
        go_wp2
        go_ret
        exact⟨rfl,HE7.out⟩
       ·cases B7
        ·have hRf:R=false:=by rw[HRR.out];rfl
         subst hRf
         clear HRR
         go_wp2
         go_ret
         exact⟨rfl,HE7.out⟩
        ·have hRf:R=B8:=by rw[HRR.out];rfl
         subst hRf
         clear HRR
         go_wp2_with fail
         refine HC8.out.mono ?_
         rintro e w8 ⟨rfl,hb8⟩
         have HE8:=hd_ (below_then HE7.out hb8 (lr_ _))
         clear v8 hb8 HC8
         go_wp2
         go_ret
         exact⟨by first |rfl |simp,HE8.out⟩
end Go.Proofs.YtkjkhoglkpepiaaGreatDoor.nmc
