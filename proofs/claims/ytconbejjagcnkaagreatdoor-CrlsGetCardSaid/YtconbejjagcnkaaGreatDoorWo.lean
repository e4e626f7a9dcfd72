/- The document's Right, body, Body and Put of a list. The document's body, Body and Put of a list. -/
import Derived.Test.YtconbejjagcnkaaGreatDoorWm
set_option maxRecDepth 100000
set_option maxHeartbeats 16000000
set_option linter.unusedVariables false
set_option linter.unusedSimpArgs false
namespace Go.Proofs.YtconbejjagcnkaaGreatDoor.nmc
open Go.RowKit tlvc tlvd ndc txc txm intc intm vtc
theorem rightL_of (c:Cr):rightL c=(rightN c.iss && (inRB c.ths && (inRB c.nxt && ((decide (c.sers.length≤256) && !(badS c.sers (-1))) && hOK c.sig)))):=by
 unfold rightL
 rw[badS_sers]
theorem rrightL_any (B:Nat→Prop)(c:Cr)(c0 c1 c2 c3 c4:Value)(w:World)(hx:CrC B w c c0 c1 c2 c3 c4)(hT:Tabs w):
 Calls Tryz.prog 18 #[.agg #[c0,c1,c2,c3,c4]] w fun e w'=>e=.returned (.bool (rightL c))∧Below w.heap.size w w':=by
 obtain⟨A0,l0,k0,a1,a2,A3,l3,k3,a4,rfl,rfl,rfl,rfl,rfl⟩:=hx.shape
 obtain⟨W0,hW0⟩:=nm_ (w.alloc (.cells #[.slice A0 l0 k0,.int .i64 a1,.int .i64 a2,.slice A3 l3 k3,.int .i64 a4] 26))
 have hb0:Below w.heap.size w W0:=by rw[←hW0];exact below_new _ _
 have p0:W0.heap[w.heap.size]? =some (.cells #[.slice A0 l0 k0,.int .i64 a1,.int .i64 a2,.slice A3 l3 k3,.int .i64 a4] 26):=by rw[←hW0];exact heap_new_ _ _
 have hL:=ls4 (hx.iss.below hb0)
 have HC:=hd_ (rright_any _ A0 l0 k0 c.iss W0 hL.1 hL.2.2.2 hL.2.1 hL.2.2.1 (hT.below hb0))
 have HP:=hd_ (fun W (hW:Below W0.heap.size W0 W)=>box5 ((hW.block _ (Array.getElem?_eq_some_iff.1 p0).1).trans p0))
 obtain⟨j1,j2,j3,_⟩:=inC_ins hx.sers
 have HI:=hd_ (ai_ (fun W (hW:Below W0.heap.size W0 W)=>j3.below (below_then hb0 hW (lr_ _))) j3.len)
 have h9:k3≤9223372036854775807:=by unfold maxLen at j2;omega
 have h1:a1=c.ths:=by have:=hx.ths.1;simpa using this
 have h2:a2=c.nxt:=by have:=hx.nxt.1;simpa using this
 have h4:a4=c.sig:=by have:=hx.sig.1;simpa using this
 have hR:=rightL_of c
 rw[←h1,←h2,←h4,j3.len] at hR
 obtain⟨S,hS⟩:=nm_ (badS c.sers (-1))
 obtain⟨r1,hr1⟩:=nm_ (rightN c.iss)
 obtain⟨r2,hr2⟩:=nm_ (inRB a1)
 obtain⟨r3,hr3⟩:=nm_ (inRB a2)
 obtain⟨r5,hr5⟩:=nm_ (hOK a4)
 rw[hr1,hr2,hr3,hS,hr5] at hR
 rw[hr1] at HC
 have HM1:=hd_ (fun W=>(show Calls _ _ _ _ (fun e w'=>e=.returned (.bool r2)∧Below W.heap.size W w') by rw[←hr2];exact moment_any a1 W))
 have HM2:=hd_ (fun W=>(show Calls _ _ _ _ (fun e w'=>e=.returned (.bool r3)∧Below W.heap.size W w') by rw[←hr3];exact moment_any a2 W))
 have HM3:=hd_ (fun W=>(show Calls _ _ _ _ (fun e w'=>e=.returned (.bool r5)∧Below W.heap.size W w') by rw[←hr5];exact handled_any a4 W))
 have HS:=hd_ hS
 obtain⟨RR,hRR⟩:=nm_ (rightL c)
 rw[hRR] at hR⊢
 have HR:=hd_ hR
 have HB:=hd_ hb0
 have e0:=(box5 p0).1
 clear hL p0 hx hT h1 h2 h4 hR hS hr1 hr2 hr3 hr5 hRR j2 j3 hb0
 go_enter Tryz.func18,Tryz.ntmps18
 go_wp2_with fail
 clear e0
 refine HC.out.mono ?_
 rintro e w1 ⟨rfl,hb1⟩
 have HE:=hd_ (below_then HB.out hb1 (lr_ _))
 have e1:=(HP.out w1 hb1).2.1
 have H1:=hd_ hb1
 clear hb1 HC
 cases r1 with
 |false=>
  have HRR:=hd_ (show false=RR by rw[HR.out];rfl)
  go_wp2
  go_ret
  exact⟨by rw[←HRR.out];rfl,HE.out⟩
 |true=>
  have HC:=hd_ (HM1.out w1)
  go_wp2_with fail
  clear e1
  refine HC.out.mono ?_
  rintro e w2 ⟨rfl,hb2⟩
  have hb2:=below_then H1.out hb2 (lr_ _)
  have HE:=hd_ (below_then HB.out hb2 (lr_ _))
  have e2:=(HP.out w2 hb2).2.2.1
  have H2:=hd_ hb2
  clear hb2 HC H1
  cases r2 with
  |false=>
   have HRR:=hd_ (show false=RR by rw[HR.out];rfl)
   go_wp2
   go_ret
   exact⟨by rw[←HRR.out];rfl,HE.out⟩
  |true=>
   have HC:=hd_ (HM2.out w2)
   go_wp2_with fail
   clear e2
   refine HC.out.mono ?_
   rintro e w3 ⟨rfl,hb3⟩
   have hb3:=below_then H2.out hb3 (lr_ _)
   have HE:=hd_ (below_then HB.out hb3 (lr_ _))
   have e4:=(HP.out w3 hb3).2.2.2.2
   have H3:=hd_ hb3
   clear hb3 HC H2
   cases r3 with
   |false=>
    have HRR:=hd_ (show false=RR by rw[HR.out];rfl)
    go_wp2
    go_ret
    exact⟨by rw[←HRR.out];rfl,HE.out⟩
   |true=>
    have HC:=hd_ (HM3.out w3)
    go_wp2_with fail
    clear e4
    refine HC.out.mono ?_
    rintro e w4 ⟨rfl,hb4⟩
    have hb4:=below_then H3.out hb4 (lr_ _)
    have HE:=hd_ (below_then HB.out hb4 (lr_ _))
    have e3:=(HP.out w4 hb4).2.2.2.1
    have u3: ∀q,(w4.drewN q).cell? ⟨w.heap.size,3,none⟩=some (.slice A3 l3 k3):=fun q=>e3
    have HX:=hd_ (HI.out.1 w4 hb4)
    clear hb4 HC H3
    cases r5 with
    |false=>
     have HRR:=hd_ (show false=RR by rw[HR.out,Bool.and_false];rfl)
     go_wp2
     go_ret
     exact⟨by rw[←HRR.out];rfl,HE.out⟩
    |true=>
     by_cases h256:256<l3
     ·have hz:(256:Int)< (l3:Int):=by omega
      have HRR:=hd_ (show false=RR by rw[HR.out,decide_eq_false (by omega: ¬l3≤256)];rfl)
      clear h256
      go_wp2
      go_ret
      exact⟨by rw[←HRR.out];rfl,HE.out⟩
     ·have hz: ¬(256:Int)< (l3:Int):=by omega
      have HRR:=hd_ (show(!S)=RR by rw[HR.out,decide_eq_true (by omega:l3≤256)];simp)
      clear h256
      go_wp2_with fail
      clear e3
      go_loopg [4] (l3+1) (fun gk s4 wr=>∃(i:Nat) (v:Int) (q:Nat),s4=.int .i64 i∧i≤l3∧l3 - i<gk∧wr=w4.drewN q∧Hid (badS (c.sers.drop i) v=S∧ -1≤v∧(i=0→v= -1)∧(0<i→v=c.sers.getD (i - 1) 0)))
      case atStart=>exact⟨0, -1,0,rfl,by omega,by omega,rfl,hd_ ⟨by rw[List.drop_zero];exact HS.out,by omega,fun _=>rfl,fun h=>absurd h (by omega)⟩⟩
      case round=>
       obtain⟨i,v,q,rfl,hi,hgk,rfl,HV⟩:=hrel
       by_cases hlt:i<l3
       ·have hltz:(i:Int)< (l3:Int):=by omega
        obtain⟨gk',rfl⟩: ∃g',gk=g'+1:=⟨gk - 1,by omega⟩
        have HM:=hd_ (ai_ (show i+1≤l3 from hlt) (show l3 - (i+1)<gk' by omega))
        obtain⟨b,off,rfl,_,hcl⟩:=HX.out.2.2 (by omega)
        have hix:i<c.sers.length:=by rw[HI.out.2];exact hlt
        have hbd:=badS_drop (v:=v) hix
        rw[HV.out.1] at hbd
        have hc1: ∀q,(w4.drewN q).cell? ⟨b,off+i,none⟩=some (.int .i64 (c.sers.getD i 0)):=fun q=>hcl i hlt
        have hi0:(0:Int)≤(i:Int):=by omega
        have hnext: ∀y:Int,c.sers.getD i 0=y→ -1≤y→badS (c.sers.drop (i+1)) y=S→Hid (badS (c.sers.drop (i+1)) y=S∧ -1≤y∧(i+1=0→y= -1)∧(0<i+1→y=c.sers.getD (i+1 - 1) 0)):=fun y hy h1 h2=>hd_ ⟨h2,h1,fun h=>absurd h (by omega),fun _=>by rw[Nat.add_sub_cancel];exact hy.symm⟩
        have HNX:=hd_ hnext
        clear hnext
        by_cases h0:c.sers.getD i 0<0
        ·have HF:=hd_ (show S=true by rw[hbd,decide_eq_true (show c.sers.getD i 0≤v by have:=HV.out.2.1;omega)];rfl)
         obtain⟨y,hy⟩:=nm_ (c.sers.getD i 0)
         rw[hy] at hc1 h0
         clear hbd hy hcl
         go_wp2_with fail
         go_quiet (fail)
         go_wp2
         go_ret
         exact⟨by rw[←HRR.out,HF.out];rfl,⟨HE.out.os,HE.out.tape,HE.out.output,HE.out.size,HE.out.block⟩⟩
        ·by_cases hm:4611686018427387904<c.sers.getD i 0
         ·have HF:=hd_ (show S=true by rw[hbd,decide_eq_true hm];simp)
          obtain⟨y,hy⟩:=nm_ (c.sers.getD i 0)
          rw[hy] at hc1 h0 hm
          have hd0:decide (y<0)=false:=decide_eq_false h0
          have hdm:decide (4611686018427387904<y)=true:=decide_eq_true hm
          clear hbd hy hcl h0 hm
          go_wp2_with fail
          go_quiet (fail)
          go_wp2
          go_ret
          exact⟨by rw[←HRR.out,HF.out];rfl,⟨HE.out.os,HE.out.tape,HE.out.output,HE.out.size,HE.out.block⟩⟩
         ·by_cases hip:0<i
          ·have hipz:(0:Int)< (i:Int):=by omega
           have hv:=HV.out.2.2.2 hip
           have hcp:=hcl (i - 1) (by omega)
           rw[←hv] at hcp
           obtain⟨p,hp⟩:=nm_ (i - 1)
           rw[hp] at hcp
           have hc2: ∀q,(w4.drewN q).cell? ⟨b,off+p,none⟩=some (.int .i64 v):=fun q=>hcp
           have heq:((i:Nat):Int) - 1=((p:Nat):Int):=by omega
           have hp0:(0:Int)≤(p:Int):=by omega
           have hp1:(p:Int)< (l3:Int):=by omega
           have hp2:p<l3:=by omega
           have hwr:IntKind.i64.wrap ((i:Int) - 1)=(p:Int):=by rw[heq];exact IntWalk.i64_in _ (by omega)
           have hwp:IntKind.i64.wrap (p:Int)=(p:Int):=IntWalk.i64_in _ (by omega)
           by_cases hle:c.sers.getD i 0≤v
           ·have HF:=hd_ (show S=true by rw[hbd,decide_eq_true hle];rfl)
            obtain⟨y,hy⟩:=nm_ (c.sers.getD i 0)
            rw[hy] at hc1 h0 hm hle
            clear hbd hy hcl hcp hv hp
            go_wp2_with fail
            go_quiet (fail)
            go_wp2
            go_ret
            exact⟨by rw[←HRR.out,HF.out];rfl,⟨HE.out.os,HE.out.tape,HE.out.output,HE.out.size,HE.out.block⟩⟩
           ·have hb':badS (c.sers.drop (i+1)) (c.sers.getD i 0)=S:=by rw[hbd,decide_eq_false hle,decide_eq_false hm];simp
            have HF:=hd_ (HNX.out _ rfl (by omega) hb')
            obtain⟨y,hy⟩:=nm_ (c.sers.getD i 0)
            rw[hy] at hc1 h0 hm hle HF
            clear hbd hy hcl hcp hv hp hb'
            go_wp2_with fail
            go_quiet (fail)
            go_wp2
            go_roundg gk'
            case measure=>omega
            case rel=>exact⟨i+1,y,_,by go_num,HM.out.1,HM.out.2,rfl,HF⟩
          ·have hbz:decide ((0:Int)< (i:Int))=false:=decide_eq_false (by omega)
           have hbn:decide (0<i)=false:=decide_eq_false hip
           have hi0z:i=0:=by omega
           have HI0:=hd_ hi0z
           clear hi0z
           have hv:=HV.out.2.2.1 (by omega)
           have hb':badS (c.sers.drop (i+1)) (c.sers.getD i 0)=S:=by rw[hbd,decide_eq_false (show¬c.sers.getD i 0≤v by omega),decide_eq_false hm];simp
           have HF:=hd_ (HNX.out _ rfl (by omega) hb')
           obtain⟨y,hy⟩:=nm_ (c.sers.getD i 0)
           rw[hy] at hc1 h0 hm HF
           have hd0:decide (y<0)=false:=decide_eq_false h0
           have hdm:decide (4611686018427387904<y)=false:=decide_eq_false hm
           clear hbd hy hcl hv hb' hip h0 hm hbz
           go_wp2_with fail
           go_quiet (fail)
           go_wp2
           go_roundg gk'
           case measure=>omega
           case rel=>exact⟨i+1,y,_,by go_num,HM.out.1,HM.out.2,rfl,HF⟩
       ·obtain rfl:l3=i:=by omega
        have hltz: ¬(l3:Int)< (l3:Int):=by omega
        have HF:=hd_ (show S=false by rw[←HV.out.1,List.drop_eq_nil_of_le (by rw[HI.out.2];exact lr_ _)];rfl)
        go_wp2_with fail
        go_ret
        exact⟨by rw[←HRR.out,HF.out];rfl,⟨HE.out.os,HE.out.tape,HE.out.output,HE.out.size,HE.out.block⟩⟩
end Go.Proofs.YtconbejjagcnkaaGreatDoor.nmc
set_option maxRecDepth 100000
set_option maxHeartbeats 16000000
set_option linter.unusedVariables false
set_option linter.unusedSimpArgs false
namespace Go.Proofs.YtconbejjagcnkaaGreatDoor.nmc
open Go.RowKit tlvc tlvd ndc txc txm intc intm vtc
theorem szL_le_ {L:Nat}: ∀{ks:List Nd},(∀k∈ks,szN k≤L)→szL ks≤ks.length*L
 | [],_=>by simp[szL]
 |k::ks,h=>by
  have h1:=h k (by simp)
  have h2:=szL_le_ (fun n hn=>h n (List.mem_cons_of_mem _ hn))
  rw[List.length_cons,Nat.add_mul]
  show szN k+szL ks≤_
  omega
theorem rightN_parts {l:List At}(h:rightN l=true):l.length≤8∧∀a∈l,objB a.oid=true:=by
 unfold rightN at h
 rw[Bool.and_eq_true,decide_eq_true_eq,List.all_eq_true] at h
 refine⟨h.1,fun a ha=>?_⟩
 have:=h.2 a ha
 unfold attrOK at this
 rw[Bool.and_eq_true,Bool.and_eq_true] at this
 exact this.1.1
theorem sz_nameL {l:List At}(h:rightN l=true):szN (nameN l)≤25:=by
 have h8:=(rightN_parts h).1
 have e:szN (nameN l)=szL (l.map attrN)+1:=rfl
 rw[e]
 have:=szL_le_ (L:=3) (ks:=l.map attrN) (fun k hk=>by obtain⟨a,_,rfl⟩:=List.mem_map.1 hk;exact Nat.le_refl 3)
 rw[List.length_map] at this
 omega
theorem sz_bodyL {c:Cr}(h:rightL c=true):szN (bodyL c)≤400:=by
 obtain⟨h1,h2,h3,h4,h5⟩:=rightL_parts h
 unfold sersB at h4
 simp only[Bool.and_eq_true,decide_eq_true_eq] at h4
 have e:szN (bodyL c)=szN (nameN c.iss)+ (1+ (1+ ((szL (c.sers.map numN)+1)+0)))+1:=rfl
 rw[e]
 have k1:=sz_nameL h1
 have k2:=szL_le_ (L:=1) (ks:=c.sers.map numN) (fun k hk=>by obtain⟨a,_,rfl⟩:=List.mem_map.1 hk;exact Nat.le_refl 1)
 rw[List.length_map] at k2
 omega
theorem sz_nodeL {c:Cr}(h:rightL c=true):szN (nodeL c)≤20000:=by
 have e:szN (nodeL c)=szN (bodyL c)+ (1+0)+1:=rfl
 rw[e]
 have:=sz_bodyL h
 omega
theorem four_nodes {b:Nat}{W W':World}{g:Nat}{m1 m2 m3 m4:Nd}{x0 x1 x2 y0 y1 y2 z0 z1 z2 u0 u1 u2:Value}(hb:b≤W.heap.size)
 (n1:NdC (fun g=>b≤g) W m1 x0 x1 x2) (n2:NdC (fun g=>b≤g) W m2 y0 y1 y2) (n3:NdC (fun g=>b≤g) W m3 z0 z1 z2) (n4:NdC (fun g=>b≤g) W m4 u0 u1 u2)
 (hW:Below W.heap.size W W') (hg:W.heap.size≤g) (hq:W'.heap[g]? =some (.cells #[x0,x1,x2,y0,y1,y2,z0,z1,z2,u0,u1,u2] 40)):Lst ndE (fun g=>b≤g) W' (some ⟨g,0,none⟩) [m1,m2,m3,m4]:=by
 have tr: ∀n c0 c1 c2,NdC (fun g=>b≤g) W n c0 c1 c2→NdC (Fr (fun g=>b≤g) W'.heap.size (some g)) W' n c0 c1 c2:=fun n c0 c1 c2 h=>NdC.mono (fun i hi=>⟨hi.1,by have:=hi.2;have:=hW.size;omega,fun e=>by have:=Option.some.inj e;have:=hi.2;omega⟩) _ _ _ _ (NdC.below hW _ _ _ _ (NdC.bound _ _ _ _ h))
 have hG:=grow_new (E:=ndE) (base:=b) (Y:=fun g=>b≤g) (n:=4) hq rfl (by omega) rfl rfl (by decide) (all_nd (tr _ _ _ _ n1) (all_nd (tr _ _ _ _ n2) (all_nd (tr _ _ _ _ n3) (all_nd (tr _ _ _ _ n4) all_nil))))
 obtain⟨_,_,e,h1,h2,h3⟩:=hG.lst (fun g hg=>hg)
 simp only[Value.slice.injEq] at e
 obtain⟨rfl,_,rfl⟩:=e
 exact h3
theorem rbodyL_any (B:Nat→Prop)(c:Cr)(c0 c1 c2 c3 c4:Value)(w:World)(hx:CrC B w c c0 c1 c2 c3 c4)(hr:rightL c=true):
 Calls Tryz.prog 21 #[.agg #[c0,c1,c2,c3,c4]] w (NVal (fun g=>w.heap.size≤g) w (bodyL c)):=by
 have mixed:Tryz.prog.follows Departure.mixedOrders=true:=by kernel_rfl
 obtain⟨A0,l0,k0,a1,a2,A3,l3,k3,a4,rfl,rfl,rfl,rfl,rfl⟩:=hx.shape
 obtain⟨W0,hW0⟩:=nm_ ((w.alloc (.cells #[.slice A0 l0 k0,.int .i64 a1,.int .i64 a2,.slice A3 l3 k3,.int .i64 a4] 26)).alloc (.cells #[.int .u8 0,.slice none 0 0,.slice none 0 0] 40))
 have hb0:Below w.heap.size w W0:=by rw[←hW0];exact(below_new _ _).alloc (by simp) _
 have hz0:W0.heap.size=w.heap.size+2:=by rw[←hW0];simp
 have p0:W0.heap[w.heap.size]? =some (.cells #[.slice A0 l0 k0,.int .i64 a1,.int .i64 a2,.slice A3 l3 k3,.int .i64 a4] 26):=by rw[←hW0,heap_old_ _ _ (by simp)];exact heap_new_ _ _
 have p1:W0.heap[w.heap.size+1]? =some (.cells #[.int .u8 0,.slice none 0 0,.slice none 0 0] 40):=by rw[←hW0];exact heap_is (by simp)
 obtain⟨q1,q2,q3,q4,q5⟩:=rightL_parts hr
 obtain⟨j1,j2,j3,_⟩:=inC_ins hx.sers
 have hL:=ls4 hx.iss
 have hnp:=rightN_parts q1
 have h256:l3≤256:=by
  unfold sersB at q4
  rw[Bool.and_eq_true] at q4
  rw[←j3.len];exact of_decide_eq_true q4.1
 have h1:a1=c.ths:=by have:=hx.ths.1;simpa using this
 have h2:a2=c.nxt:=by have:=hx.nxt.1;simpa using this
 have h9:k3≤9223372036854775807:=by unfold maxLen at j2;omega
 have HNODE:=hd_ (fun(W:World) (hW:Below W0.heap.size W0 W)=>rnode_any _ A0 l0 k0 c.iss W hL.1 (hL.2.2.2.below (below_then hb0 hW (lr_ _))) hL.2.1 hL.2.2.1 (by rw[←hL.1];omega) hnp.2)
 have HTM1:=hd_ (fun(W:World)=>(show Calls Tryz.prog 47 #[.int .i64 a1] W (NVal (fun g=>W.heap.size≤g) W (timeNd c.ths)) by rw[h1];exact rtimeC_any c.ths W q2))
 have HTM2:=hd_ (fun(W:World)=>(show Calls Tryz.prog 47 #[.int .i64 a2] W (NVal (fun g=>W.heap.size≤g) W (timeNd c.nxt)) by rw[h2];exact rtimeC_any c.nxt W q3))
 have HI:=hd_ (ai_ (fun W (hW:Below W0.heap.size W0 W)=>j3.below (below_then hb0 hW (lr_ _))) (ai_ j3.len (ai_ h256 j3.fit)))
 have HP:=hd_ (fun W (hW:Below W0.heap.size W0 W)=>box5 ((hW.block _ (Array.getElem?_eq_some_iff.1 p0).1).trans p0))
 have HR:=hd_ (fun W (hW:Below W0.heap.size W0 W)=>(hW.block _ (Array.getElem?_eq_some_iff.1 p1).1).trans p1)
 have HB:=hd_ (ai_ hb0 hz0)
 clear hx p0 p1 q1 q2 q3 q4 q5 j2 j3 hL hnp h256 h1 h2 hb0 hz0 hr
 go_enter Tryz.func21,Tryz.ntmps21
 go_wp2_with fail
 go_loopg [3,4] (l3+1) (fun gk s3 s4 wx=>∃(i:Nat) (Av:Option Addr) (cv:Nat),s3=.slice Av i cv∧s4=.int .i64 i∧i≤l3∧l3 - i<gk∧Hid (SG W0 ((c.sers.take i).map numN) (.slice Av i cv) wx))
 case atStart=>exact⟨0,none,0,rfl,rfl,by omega,by omega,hd_ ⟨Below.refl _ _,GRow.nil⟩⟩
 case round=>
  obtain⟨i,Av,cv,rfl,rfl,hi,hgk,HG⟩:=hrel
  have e3:=(HP.out wr HG.out.bel).2.2.2.1
  by_cases hlt:i<l3
  ·have hltz:(i:Int)< (l3:Int):=by omega
   obtain⟨gk',rfl⟩: ∃g',gk=g'+1:=⟨gk - 1,by omega⟩
   have HM:=hd_ (ai_ (show i+1≤l3 from hlt) (show l3 - (i+1)<gk' by omega))
   have hin:=HI.out.1 wr HG.out.bel
   obtain⟨gb,off,rfl,hgb,hcell⟩:=hin.2.2 (by omega)
   have e0:=hcell i hlt
   have hy64:=hin.fit.getD i
   have hix:i<c.sers.length:=by rw[HI.out.2.1];exact hlt
   have htake:c.sers.take (i+1)=c.sers.take i++[c.sers.getD i 0]:=by
    rw[List.take_add_one,List.getD_eq_getElem?_getD,List.getElem?_eq_getElem hix];rfl
   obtain⟨y,hy⟩:=nm_ (c.sers.getD i 0)
   rw[hy] at e0 hy64 htake
   have HC:=hd_ (rint_any y wr hy64)
   have HTK:=hd_ htake
   clear hin hcell hgb hy htake hix
   go_wp2_with fail
   refine HC.out.mono ?_
   rintro e w6 ⟨hb6,t6,A6,l6,k6,K6,m6,u6,rfl,hn6⟩
   have hil:((c.sers.take i).map numN).length=i:=by rw[List.length_map,List.length_take,HI.out.2.1];omega
   obtain⟨A7,c7,w7,hrun,hG7⟩:=HG.out.push hb6 hn6 (by rw[hil];have:=HI.out.2.2.1;omega)
   rw[hil] at hrun hG7
   have HG7:=hd_ (show SG W0 ((c.sers.take (i+1)).map numN) (.slice A7 (i+1) c7) w7 by rw[HTK.out,List.map_append];exact hG7)
   clear hn6 hil hG7 hb6 HC HTK HG e0 e3
   go_wp2_with (at_builtin;refine wpl_append rfl (.tmp 12) (.tmp 19) 38 rfl _ _ _ rfl rfl hrun ?_)
   clear hrun
   go_wp2
   go_roundg gk'
   case measure=>omega
   case rel=>exact⟨i+1,A7,c7,by go_num,by go_num,HM.out.1,HM.out.2,HG7⟩
  ·obtain rfl:l3=i:=by omega
   have hltz: ¬(l3:Int)< (l3:Int):=by omega
   have hG:=HG.out
   rw[List.take_of_length_le (by rw[HI.out.2.1];exact lr_ _)] at hG
   obtain⟨_,_,e6,hv1,hv2,hL⟩:=hG.row.lst (fun g hg=>hg)
   obtain⟨eA,eC⟩:Av=_∧cv=_:=by simp only[Value.slice.injEq] at e6;exact⟨e6.1,e6.2.2⟩
   clear e6
   subst eA eC
   have hml:((c.sers).map numN).length=l3:=by rw[List.length_map,HI.out.2.1]
   rw[hml] at hv1
   have HX:=hd_ (ai_ hG.bel (ai_ hv1 (ai_ hv2 (ai_ hL hml))))
   obtain⟨y0,y1,y2,_,_⟩:=HP.out wr hG.bel
   clear hG hL hml hv1 hv2 HG hgk hi e3
   go_upto_region 6 with fail
   try dsimp only
   refine wp_region_noPanic ?_
   refine rh_ mixed (S:=fun X:World=>X.cell? ⟨w.heap.size,0,none⟩=some (.slice A0 l0 k0)∧X.cell? ⟨w.heap.size,1,none⟩=some (.int .i64 a1)∧X.cell? ⟨w.heap.size,2,none⟩=some (.int .i64 a2)) (K:=fun X=>Below W0.heap.size W0 X) (fun X h=>⟨(HP.out X h).1,(HP.out X h).2.1,(HP.out X h).2.2.1⟩) (below_then HX.out.1 (below_drew wr) (lr_ _)) (fun hHeld=>?_)
   have HSS:=hd_ (fun(X:World) (h:Below W0.heap.size W0 X)=>(show X.cell? ⟨w.heap.size,0,none⟩=some (.slice A0 l0 k0)∧X.cell? ⟨w.heap.size,1,none⟩=some (.int .i64 a1)∧X.cell? ⟨w.heap.size,2,none⟩=some (.int .i64 a2) from⟨(HP.out X h).1,(HP.out X h).2.1,(HP.out X h).2.2.1⟩))
   have hbd:=below_then HX.out.1 (below_drew wr) (lr_ _)
   have hLd:=HX.out.2.2.2.1.below (below_drew wr)
   obtain⟨wd,hwd⟩:=nm_ (wr.drew)
   rw[hwd] at hHeld hbd hLd⊢
   have H0:=hd_ hbd
   have HLD:=hd_ hLd
   clear hwd hbd hLd y0 y1 y2
   refine tk_ (i:=0) (z:=?_)
   refine tk_ (i:=3) (z:=?_)
   refine tk_ (i:=6) (z:=?_)
   refine tk_ (i:=9) (z:=?_)
   refine tk_ (i:=1) (z:=?_)
   refine tk_ (i:=4) (z:=?_)
   refine tk_ (i:=7) (z:=?_)
   refine on_ (i:=2) (z:=fun KK hKK=>?_)
   go_simp
   refine(HNODE.out wd H0.out).mono ?_
   rintro e w1 ⟨hb1,t1,A1,l1,k1,K1,m1,u1,rfl,hn1⟩
   dsimp only
   have hbz:=below_then H0.out hb1 (lr_ _)
   refine hKK.out _ _ (HSS.out _ hbz) (fun hHeld=>?_)
   clear hKK KK
   try simp only[Act.put,qa_,qb_,qc_]
   have H1:=hd_ (ai_ hb1 (ai_ hbz hn1))
   clear hb1 hbz hn1
   refine on_ (i:=5) (z:=fun KK hKK=>?_)
   go_simp
   refine(HTM1.out w1).mono ?_
   rintro e w2 ⟨hb2,t2,A2,l2,k2,K2,m2,u2,rfl,hn2⟩
   dsimp only
   have hbz:=below_then H1.out.2.1 hb2 (lr_ _)
   refine hKK.out _ _ (HSS.out _ hbz) (fun hHeld=>?_)
   clear hKK KK
   try simp only[Act.put,qa_,qb_,qc_]
   have H2:=hd_ (ai_ hb2 (ai_ hbz hn2))
   clear hb2 hbz hn2
   refine on_ (i:=8) (z:=fun KK hKK=>?_)
   go_simp
   refine(HTM2.out w2).mono ?_
   rintro e w3 ⟨hb3,t3,A3',l3',k3',K3,m3,u3,rfl,hn3⟩
   dsimp only
   have hbz:=below_then H2.out.2.1 hb3 (lr_ _)
   refine hKK.out _ _ (HSS.out _ hbz) (fun hHeld=>?_)
   clear hKK KK
   try simp only[Act.put,qa_,qb_,qc_]
   have H3:=hd_ (ai_ hb3 (ai_ hbz hn3))
   clear hb3 hbz hn3
   have h13:=below_then H1.out.1 (below_then H2.out.1 H3.out.1 (lr_ _)) (lr_ _)
   have hS4:=rseq_any _ 48 Av l3 cv (c.sers.map numN) w3 (by omega) HX.out.2.2.2.2 HX.out.2.1 HX.out.2.2.1 (HLD.out.below h13)
   have HC4:=hd_ hS4
   clear hS4 h13
   refine on_ (i:=10) (z:=fun KK hKK=>?_)
   go_simp
   refine HC4.out.mono ?_
   rintro e w4 ⟨hb4,t4,A4,l4,k4,K4,m4,u4,rfl,hn4⟩
   dsimp only
   have hbz:=below_then H3.out.2.1 hb4 (lr_ _)
   refine hKK.out _ _ (HSS.out _ hbz) (fun hHeld=>?_)
   clear hKK KK
   try simp only[Act.put,qa_,qb_,qc_]
   have H4:=hd_ (ai_ hb4 (ai_ hbz hn4))
   clear hb4 hbz hn4 HC4
   refine on_ (i:=11) (z:=fun KK hKK=>?_)
   go_simp
   have hbn:=below_new w4 (.cells #[.int .u8 t1,.slice A1 l1 k1,.slice K1 m1 u1,.int .u8 t2,.slice A2 l2 k2,.slice K2 m2 u2,.int .u8 t3,.slice A3' l3' k3',.slice K3 m3 u3,.int .u8 t4,.slice A4 l4 k4,.slice K4 m4 u4] 40)
   have hqn:=heap_new_ w4 (.cells #[.int .u8 t1,.slice A1 l1 k1,.slice K1 m1 u1,.int .u8 t2,.slice A2 l2 k2,.slice K2 m2 u2,.int .u8 t3,.slice A3' l3' k3',.slice K3 m3 u3,.int .u8 t4,.slice A4 l4 k4,.slice K4 m4 u4] 40)
   obtain⟨wn,hwn⟩:=nm_ (w4.alloc (.cells #[.int .u8 t1,.slice A1 l1 k1,.slice K1 m1 u1,.int .u8 t2,.slice A2 l2 k2,.slice K2 m2 u2,.int .u8 t3,.slice A3' l3' k3',.slice K3 m3 u3,.int .u8 t4,.slice A4 l4 k4,.slice K4 m4 u4] 40))
   rw[hwn] at hbn hqn⊢
   have hbz:=below_then H4.out.2.1 hbn (lr_ _)
   refine hKK.out _ _ (HSS.out _ hbz) (fun hHeld=>?_)
   clear hKK KK
   try simp only[Act.put,qa_,qb_,qc_]
   have hz0:=HB.out.2
   have hwd0:=H0.out.size
   have hw10:=H1.out.1.size
   have hw20:=H2.out.1.size
   have hw30:=H3.out.1.size
   have hw40:=H4.out.1.size
   have n1:=NdC.mono (B':=fun g=>w.heap.size+2≤g) (fun g (hg:wd.heap.size≤g)=>by omega) _ _ _ _ (NdC.below H4.out.1 _ _ _ _ (NdC.below H3.out.1 _ _ _ _ (NdC.below H2.out.1 _ _ _ _ H1.out.2.2)))
   have n2:=NdC.mono (B':=fun g=>w.heap.size+2≤g) (fun g (hg:w1.heap.size≤g)=>by omega) _ _ _ _ (NdC.below H4.out.1 _ _ _ _ (NdC.below H3.out.1 _ _ _ _ H2.out.2.2))
   have n3:=NdC.mono (B':=fun g=>w.heap.size+2≤g) (fun g (hg:w2.heap.size≤g)=>by omega) _ _ _ _ (NdC.below H4.out.1 _ _ _ _ H3.out.2.2)
   have n4:=NdC.mono (B':=fun g=>w.heap.size+2≤g) (fun g (hg:W0.heap.size≤g)=>by omega) _ _ _ _ H4.out.2.2
   have hL4:=four_nodes (by omega) n1 n2 n3 n4 hbn (lr_ _) hqn
   have hS5:=rseq_any _ 48 (some ⟨w4.heap.size,0,none⟩) 4 4 _ wn (by omega) rfl (lr_ _) (by decide) hL4
   have HC5:=hd_ (ai_ hS5 hbz)
   clear hS5 hL4 n1 n2 n3 n4 hbz hqn hbn hwn hz0 hwd0 hw10 hw20 hw30 hw40 HNODE HTM1 HTM2
   refine on_ (i:=12) (z:=fun KK hKK=>?_)
   go_simp
   refine HC5.out.1.mono ?_
   rintro e wb ⟨hbb,t5,A5,l5,k5,K5,m5,u5,rfl,hn5⟩
   dsimp only
   have hbz:=below_then HC5.out.2 hbb (lr_ _)
   refine hKK.out _ _ (HSS.out _ hbz) (fun hHeld=>?_)
   clear hKK KK
   try simp only[Act.put,qa_,qb_,qc_]
   have p1:=HR.out wb hbz
   have hBw:=below_then HB.out.1 hbz (lr_ _)
   obtain⟨⟨f0,f1,f2⟩,s0,s1,s2⟩:=st3 p1
   obtain⟨r0,r1,r2,hB⟩:=res3 (y0:=.int .u8 t5) (y1:=.slice A5 l5 k5) (y2:=.slice K5 m5 u5) (show w.heap.size≤w.heap.size+1 by omega) hBw p1
   have hn6:=res3_nd (b:=w.heap.size+1) (y0:=.int .u8 t5) (y1:=.slice A5 l5 k5) (y2:=.slice K5 m5 u5) (fun g (hg:w.heap.size+2≤g)=>by omega) hn5
   have HE:=hd_ (ai_ hB (NdC.mono (B':=fun g=>w.heap.size≤g) (fun g (hg:w.heap.size+2≤g)=>by omega) _ _ _ _ hn6))
   have HKS:=hd_ (fun(X:World) (hX:X.heap[w.heap.size]? =wb.heap[w.heap.size]?)=>(show X.cell? ⟨w.heap.size,0,none⟩=some (.slice A0 l0 k0)∧X.cell? ⟨w.heap.size,1,none⟩=some (.int .i64 a1)∧X.cell? ⟨w.heap.size,2,none⟩=some (.int .i64 a2) from⟨(cell_same hX).trans (HSS.out _ hbz).1,(cell_same hX).trans (HSS.out _ hbz).2.1,(cell_same hX).trans (HSS.out _ hbz).2.2⟩))
   clear hB hn5 hn6 p1 hBw hbb hbz H0 H1 H2 H3 H4 HC5 HLD
   refine on_ (i:=13) (z:=fun KK hKK=>?_)
   go_simp
   refine hKK.out _ _ (HKS.out _ (set3_other _ _ _ _ _ (by omega))) (fun hHeld=>?_)
   clear hKK KK
   try simp only[Act.put,qa_,qb_,qc_]
   clear f0 f1 f2 s0 s1 s2
   refine wpAnyH_done (by kernel_rfl) ?_ _
   refine NoPanic.normal ?_
   clear hHeld
   go_wp2_with fail
   refine bodyPost_ret (v:=.agg #[.int .u8 t5,.slice A5 l5 k5,.slice K5 m5 u5]) ?_ rfl ⟨HE.out.1,_,_,_,_,_,_,_,rfl,HE.out.2⟩
   simp[results,Tryz.results21,go_sem,r0,r1,r2]
theorem rBodyL_any (B:Nat→Prop)(c:Cr)(c0 c1 c2 c3 c4:Value)(w:World)(hx:CrC B w c c0 c1 c2 c3 c4)(hT:Tabs w):
 Calls Tryz.prog 9 #[.agg #[c0,c1,c2,c3,c4]] w (DPost w (bodyV c)):=by
 obtain⟨A0,l0,k0,a1,a2,A3,l3,k3,a4,rfl,rfl,rfl,rfl,rfl⟩:=hx.shape
 obtain⟨W0,hW0⟩:=nm_ (w.alloc (.cells #[.slice A0 l0 k0,.int .i64 a1,.int .i64 a2,.slice A3 l3 k3,.int .i64 a4] 26))
 have hb0:Below w.heap.size w W0:=by rw[←hW0];exact below_new _ _
 have p0:W0.heap[w.heap.size]? =some (.cells #[.slice A0 l0 k0,.int .i64 a1,.int .i64 a2,.slice A3 l3 k3,.int .i64 a4] 26):=by rw[←hW0];exact heap_new_ _ _
 have HC:=hd_ (rrightL_any _ c _ _ _ _ _ W0 (hx.below hb0) (hT.below hb0))
 have HX:=hd_ (fun W (hW:Below W0.heap.size W0 W)=>ai_ (hx.below (below_then hb0 hW (lr_ _))) (hT.below (below_then hb0 hW (lr_ _))))
 have HP:=hd_ (fun W (hW:Below W0.heap.size W0 W)=>box5 ((hW.block _ (Array.getElem?_eq_some_iff.1 p0).1).trans p0))
 have HS:=hd_ (ai_ (show a4=c.sig by have:=hx.sig.1;simpa using this) hx.sig.2)
 have HB:=hd_ hb0
 obtain⟨y0,y1,y2,y3,y4⟩:=box5 p0
 obtain⟨R,hR⟩:=nm_ (rightL c)
 rw[hR] at HC
 have HR:=hd_ hR
 clear p0 hx hT hb0 hR
 go_enter Tryz.func9,Tryz.ntmps9
 go_wp2_with fail
 clear y0 y1 y2 y3 y4
 refine HC.out.mono ?_
 rintro e w1 ⟨rfl,hb1⟩
 have HE:=hd_ (below_then HB.out hb1 (lr_ _))
 have H1:=hd_ hb1
 clear hb1 HC
 cases R with
 |false=>
  go_wp2
  go_ret2
  exact⟨HE.out,by
   have:bodyV c=.no 121:=by unfold bodyV;rw[if_neg (by rw[HR.out];decide)]
   rw[this]
   exact⟨none,0,rfl⟩⟩
 |true=>
  obtain⟨y0,y1,y2,y3,y4⟩:=HP.out w1 H1.out
  have HC:=hd_ (rbodyL_any _ c _ _ _ _ _ w1 (HX.out w1 H1.out).1 HR.out)
  go_wp2_with fail
  clear y0 y1 y2 y3 y4
  refine HC.out.mono ?_
  rintro e w2 ⟨hb2,t,A,l,k,K,m,u,rfl,hn⟩
  have hb2:=below_then H1.out hb2 (lr_ _)
  have hp:=refPrint_any (bodyL c) (by have:=sz_bodyL HR.out;omega) _ _ w2 ⟨_,_,_,rfl,hn⟩ (HX.out w2 hb2).2
  have hV:bodyV c=writeF (bodyL c) 0:=by unfold bodyV;rw[if_pos HR.out]
  obtain⟨r,hr⟩:=nm_ (writeF (bodyL c) 0)
  rw[hr] at hp hV
  have HD:=hd_ hp
  have HVV:=hd_ hV
  have HE:=hd_ (below_then HB.out hb2 (lr_ _))
  clear hp hr hV hn hb2 HC
  go_wp2_with fail
  refine HD.out.mono ?_
  rintro e w3 hp
  cases r with
  |no er=>
   obtain⟨hb3,A9,c9,rfl⟩:=hp
   have HF:=hd_ (below_then HE.out hb3 (lr_ _))
   clear hb3
   go_wp2
   go_ret2
   refine⟨HF.out,?_⟩
   rw[HVV.out]
   exact⟨A9,c9,rfl⟩
  |ok b=>
   obtain⟨hb3,A9,c9,rfl,g1,g2,g3⟩:=hp
   have HF:=hd_ (ai_ (below_then HE.out hb3 (lr_ _)) (ai_ g1 (ai_ g2 (fun g off sp h=>Nat.le_trans HE.out.size (g3 g off sp h)))))
   obtain⟨lb,hlb⟩:=nm_ b.length
   have HLB:=hd_ hlb
   rw[hlb] at HF⊢
   clear hb3 g1 g2 g3 hlb
   go_wp2
   go_ret2
   refine⟨HF.out.1,?_⟩
   rw[HVV.out]
   exact⟨A9,c9,by rw[HLB.out];rfl,by rw[HLB.out];exact HF.out.2.1,by rw[HLB.out];exact HF.out.2.2.1,HF.out.2.2.2⟩
theorem rputL_any (B:Nat→Prop)(c:Cr)(c0 c1 c2 c3 c4:Value)(w:World)(hx:CrC B w c c0 c1 c2 c3 c4)(hT:Tabs w):
 Calls Tryz.prog 7 #[.agg #[c0,c1,c2,c3,c4]] w (DPost w (putL c)):=by
 have mixed:Tryz.prog.follows Departure.mixedOrders=true:=by kernel_rfl
 obtain⟨A0,l0,k0,a1,a2,A3,l3,k3,a4,rfl,rfl,rfl,rfl,rfl⟩:=hx.shape
 obtain⟨W0,hW0⟩:=nm_ (w.alloc (.cells #[.slice A0 l0 k0,.int .i64 a1,.int .i64 a2,.slice A3 l3 k3,.int .i64 a4] 26))
 have hb0:Below w.heap.size w W0:=by rw[←hW0];exact below_new _ _
 have p0:W0.heap[w.heap.size]? =some (.cells #[.slice A0 l0 k0,.int .i64 a1,.int .i64 a2,.slice A3 l3 k3,.int .i64 a4] 26):=by rw[←hW0];exact heap_new_ _ _
 have HC:=hd_ (rrightL_any _ c _ _ _ _ _ W0 (hx.below hb0) (hT.below hb0))
 have HX:=hd_ (fun W (hW:Below W0.heap.size W0 W)=>ai_ (hx.below (below_then hb0 hW (lr_ _))) (hT.below (below_then hb0 hW (lr_ _))))
 have HP:=hd_ (fun W (hW:Below W0.heap.size W0 W)=>box5 ((hW.block _ (Array.getElem?_eq_some_iff.1 p0).1).trans p0))
 have HS:=hd_ (ai_ (show a4=c.sig by have:=hx.sig.1;simpa using this) hx.sig.2)
 have HB:=hd_ hb0
 obtain⟨y0,y1,y2,y3,y4⟩:=box5 p0
 obtain⟨R,hR⟩:=nm_ (rightL c)
 rw[hR] at HC
 have HR:=hd_ hR
 clear p0 hx hT hb0 hR
 go_enter Tryz.func7,Tryz.ntmps7
 go_wp2_with fail
 clear y0 y1 y2 y3 y4
 refine HC.out.mono ?_
 rintro e w1 ⟨rfl,hb1⟩
 have HE:=hd_ (below_then HB.out hb1 (lr_ _))
 have H1:=hd_ hb1
 clear hb1 HC
 cases R with
 |false=>
  go_wp2
  go_ret2
  exact⟨HE.out,by
   have:putL c=.no 121:=by unfold putL;rw[if_neg (by rw[HR.out];decide)]
   rw[this]
   exact⟨none,0,rfl⟩⟩
 |true=>
  obtain⟨y0,y1,y2,y3,y4⟩:=HP.out w1 H1.out
  have h4:0≤a4∧a4<281474976710656:=by rw[HS.out.1];exact(rightL_parts HR.out).2.2.2.2
  have HH4:=hd_ h4
  clear h4
  go_upto_region 4 with fail
  try dsimp only
  refine wp_region_noPanic ?_
  refine rh_ mixed (S:=fun X:World=>(X.cell? ⟨w.heap.size,0,none⟩=some (.slice A0 l0 k0)∧X.cell? ⟨w.heap.size,1,none⟩=some (.int .i64 a1)∧X.cell? ⟨w.heap.size,2,none⟩=some (.int .i64 a2)∧X.cell? ⟨w.heap.size,3,none⟩=some (.slice A3 l3 k3)∧X.cell? ⟨w.heap.size,4,none⟩=some (.int .i64 a4))) (K:=fun X=>Below W0.heap.size W0 X) (fun X h=>HP.out X h) (below_then H1.out (below_drew w1) (lr_ _)) (fun hHeld=>?_)
  have hbd:=below_then H1.out (below_drew w1) (lr_ _)
  obtain⟨wd,hwd⟩:=nm_ (w1.drew)
  rw[hwd] at hHeld hbd⊢
  have H0:=hd_ hbd
  have HBC:=hd_ (rbodyL_any _ c _ _ _ _ _ wd (HX.out wd hbd).1 HR.out)
  clear hwd hbd y0 y1 y2 y3 y4
  refine tk_ (i:=0) (z:=?_)
  refine tk_ (i:=2) (z:=?_)
  refine tk_ (i:=3) (z:=?_)
  refine on_ (i:=1) (z:=fun KK hKK=>?_)
  go_simp
  refine HBC.out.mono ?_
  rintro e w2 ⟨hb2,t2,A2,l2,k2,K2,m2,u2,rfl,hn2⟩
  dsimp only
  have hbz:=below_then H0.out hb2 (lr_ _)
  refine hKK.out _ _ (HP.out _ hbz) (fun hHeld=>?_)
  clear hKK KK
  try simp only[Act.put,qa_,qb_,qc_]
  have H2:=hd_ (ai_ hb2 (ai_ hbz hn2))
  clear hb2 hbz hn2 HBC
  refine on_ (i:=4) (z:=fun KK hKK=>?_)
  go_simp
  refine(rhandleC_any a4 w2 HH4.out).mono ?_
  rintro e w3 ⟨hb3,t3,A3',l3',k3',K3,m3,u3,rfl,hn3⟩
  dsimp only
  have hbz:=below_then H2.out.2.1 hb3 (lr_ _)
  refine hKK.out _ _ (HP.out _ hbz) (fun hHeld=>?_)
  clear hKK KK
  try simp only[Act.put,qa_,qb_,qc_]
  have H3:=hd_ (ai_ hb3 (ai_ hbz hn3))
  clear hb3 hbz hn3
  refine on_ (i:=5) (z:=fun KK hKK=>?_)
  go_simp
  have hbn:=below_new w3 (.cells #[.int .u8 t2,.slice A2 l2 k2,.slice K2 m2 u2,.int .u8 t3,.slice A3' l3' k3',.slice K3 m3 u3] 40)
  have hqn:=heap_new_ w3 (.cells #[.int .u8 t2,.slice A2 l2 k2,.slice K2 m2 u2,.int .u8 t3,.slice A3' l3' k3',.slice K3 m3 u3] 40)
  obtain⟨wn,hwn⟩:=nm_ (w3.alloc (.cells #[.int .u8 t2,.slice A2 l2 k2,.slice K2 m2 u2,.int .u8 t3,.slice A3' l3' k3',.slice K3 m3 u3] 40))
  rw[hwn] at hbn hqn⊢
  have hbz:=below_then H3.out.2.1 hbn (lr_ _)
  refine hKK.out _ _ (HP.out _ hbz) (fun hHeld=>?_)
  clear hKK KK
  try simp only[Act.put,qa_,qb_,qc_]
  have n2:=NdC.mono (B':=fun _=>True) (fun _ _=>trivial) _ _ _ _ (NdC.below hbn _ _ _ _ (NdC.below H3.out.1 _ _ _ _ H2.out.2.2))
  have n3:=NdC.mono (B':=fun _=>True) (fun _ _=>trivial) _ _ _ _ (NdC.below hbn _ _ _ _ H3.out.2.2)
  have hS:=rseq_any _ 48 (some ⟨w3.heap.size,0,none⟩) 2 2 [bodyL c,hNd a4] wn (by omega) rfl (lr_ _) (by decide) (two_nodes hqn trivial n2 n3)
  rw[HS.out.1] at hS
  have HC5:=hd_ (ai_ hS hbz)
  clear hS n2 n3 hbz hqn hbn hwn H3 H2
  refine on_ (i:=6) (z:=fun KK hKK=>?_)
  go_simp
  refine HC5.out.1.mono ?_
  rintro e w5 ⟨hb5,t5,A5,l5,k5,K5,m5,u5,rfl,hn5⟩
  dsimp only
  have hbz:=below_then HC5.out.2 hb5 (lr_ _)
  refine hKK.out _ _ (HP.out _ hbz) (fun hHeld=>?_)
  clear hKK KK
  try simp only[Act.put,qa_,qb_,qc_]
  have hp:=refPrint_any (nodeL c) (sz_nodeL HR.out) _ _ w5 ⟨_,_,_,rfl,hn5⟩ (HX.out w5 hbz).2
  have hV:putL c=writeF (nodeL c) 0:=by unfold putL;rw[if_pos HR.out]
  rw[←hV] at hp
  obtain⟨b,hbk⟩: ∃b,putL c=.ok b:=by rw[hV];exact(lists_node HR.out).imp fun _ h=>h.1
  rw[hbk] at hp
  have HD:=hd_ hp
  have HE:=hd_ (ai_ (below_then HB.out hbz (lr_ _)) (ai_ hbz hbk))
  clear hp hV hn5 hb5 hbz HC5 hbk
  refine on_ (i:=7) (z:=fun KK hKK=>?_)
  go_simp
  refine HD.out.mono ?_
  rintro e w6 hp
  obtain⟨hb6,A9,c9,rfl,g1,g2,g3⟩:=hp
  dsimp only
  have HF:=hd_ (ai_ (below_then HE.out.1 hb6 (lr_ _)) (ai_ g1 (ai_ g2 (fun g off sp h=>Nat.le_trans HE.out.1.size (g3 g off sp h)))))
  obtain⟨lb,hlb⟩:=nm_ b.length
  have HLB:=hd_ hlb
  rw[hlb] at HF⊢
  refine hKK.out _ _ (HP.out _ (below_then HE.out.2.1 hb6 (lr_ _))) (fun hHeld=>?_)
  clear hKK KK
  try simp only[Act.put,qa_,qb_,qc_]
  clear hb6 g1 g2 g3 hlb HD
  refine tk_ (i:=8) (z:=?_)
  refine tk_ (i:=9) (z:=?_)
  refine tk_ (i:=10) (z:=?_)
  refine tk_ (i:=11) (z:=?_)
  refine wpAnyH_done (by kernel_rfl) ?_ _
  refine NoPanic.normal ?_
  clear hHeld
  go_wp2_with fail
  go_ret2
  refine⟨HF.out.1,?_⟩
  rw[HE.out.2.2]
  exact⟨A9,c9,by rw[HLB.out];rfl,by rw[HLB.out];exact HF.out.2.1,by rw[HLB.out];exact HF.out.2.2.1,HF.out.2.2.2⟩
end Go.Proofs.YtconbejjagcnkaaGreatDoor.nmc
