/- The document's Right, body, Body and Put of a list. -/
import Derived.Test.YtconbejjagcnkaaGreatDoorWm
set_option maxRecDepth 100000
set_option maxHeartbeats 16000000
set_option linter.unusedVariables false
set_option linter.unusedSimpArgs false
namespace Go.Proofs.YtconbejjagcnkaaGreatDoor.nmc
open Go.RowKit tlvc tlvd ndc txc txm intc intm vtc
theorem rightL_of (c:Cr):rightL c=(rightN c.iss && (inRB c.ths && (inRB c.nxt && ((decide (c.sers.length≤256) && !(badS c.sers (-1))) && hOK c.sig)))):=by
 unfold rightL
 rw[badS_sers]
theorem rrightL_any (B:Nat→Prop)(c:Cr)(c0 c1 c2 c3 c4:Value)(w:World)(hx:CrC B w c c0 c1 c2 c3 c4)(hT:Tabs w):
 Calls Tryz.prog 18 #[.agg #[c0,c1,c2,c3,c4]] w fun e w'=>e=.returned (.bool (rightL c))∧Below w.heap.size w w':=by
 obtain⟨A0,l0,k0,a1,a2,A3,l3,k3,a4,rfl,rfl,rfl,rfl,rfl⟩:=hx.shape
 obtain⟨W0,hW0⟩:=nm_ (w.alloc (.cells #[.slice A0 l0 k0,.int .i64 a1,.int .i64 a2,.slice A3 l3 k3,.int .i64 a4] 26))
 have hb0:Below w.heap.size w W0:=by rw[←hW0];exact below_new _ _
 have p0:W0.heap[w.heap.size]? =some (.cells #[.slice A0 l0 k0,.int .i64 a1,.int .i64 a2,.slice A3 l3 k3,.int .i64 a4] 26):=by rw[←hW0];exact heap_new_ _ _
 have hL:=ls4 (hx.iss.below hb0)
 have HC:=hd_ (rright_any _ A0 l0 k0 c.iss W0 hL.1 hL.2.2.2 hL.2.1 hL.2.2.1 (hT.below hb0))
 have HP:=hd_ (fun W (hW:Below W0.heap.size W0 W)=>box5 ((hW.block _ (Array.getElem?_eq_some_iff.1 p0).1).trans p0))
 obtain⟨j1,j2,j3,_⟩:=inC_ins hx.sers
 have HI:=hd_ (ai_ (fun W (hW:Below W0.heap.size W0 W)=>j3.below (below_then hb0 hW (lr_ _))) j3.len)
 have h9:k3≤9223372036854775807:=by unfold maxLen at j2;omega
 have h1:a1=c.ths:=by have:=hx.ths.1;simpa using this
 have h2:a2=c.nxt:=by have:=hx.nxt.1;simpa using this
 have h4:a4=c.sig:=by have:=hx.sig.1;simpa using this
 have hR:=rightL_of c
 rw[←h1,←h2,←h4,j3.len] at hR
 obtain⟨S,hS⟩:=nm_ (badS c.sers (-1))
 obtain⟨r1,hr1⟩:=nm_ (rightN c.iss)
 obtain⟨r2,hr2⟩:=nm_ (inRB a1)
 obtain⟨r3,hr3⟩:=nm_ (inRB a2)
 obtain⟨r5,hr5⟩:=nm_ (hOK a4)
 rw[hr1,hr2,hr3,hS,hr5] at hR
 rw[hr1] at HC
 have HM1:=hd_ (fun W=>(show Calls _ _ _ _ (fun e w'=>e=.returned (.bool r2)∧Below W.heap.size W w') by rw[←hr2];exact moment_any a1 W))
 have HM2:=hd_ (fun W=>(show Calls _ _ _ _ (fun e w'=>e=.returned (.bool r3)∧Below W.heap.size W w') by rw[←hr3];exact moment_any a2 W))
 have HM3:=hd_ (fun W=>(show Calls _ _ _ _ (fun e w'=>e=.returned (.bool r5)∧Below W.heap.size W w') by rw[←hr5];exact handled_any a4 W))
 have HS:=hd_ hS
 obtain⟨RR,hRR⟩:=nm_ (rightL c)
 rw[hRR] at hR⊢
 have HR:=hd_ hR
 have HB:=hd_ hb0
 have e0:=(box5 p0).1
 clear hL p0 hx hT h1 h2 h4 hR hS hr1 hr2 hr3 hr5 hRR j2 j3 hb0
 go_enter Tryz.func18,Tryz.ntmps18
 go_wp2_with fail
 clear e0
 refine HC.out.mono ?_
 rintro e w1 ⟨rfl,hb1⟩
 have HE:=hd_ (below_then HB.out hb1 (lr_ _))
 have e1:=(HP.out w1 hb1).2.1
 have H1:=hd_ hb1
 clear hb1 HC
 cases r1 with
 |false=>
  have HRR:=hd_ (show false=RR by rw[HR.out];rfl)
  go_wp2
  go_ret
  exact⟨by rw[←HRR.out];rfl,HE.out⟩
 |true=>
  have HC:=hd_ (HM1.out w1)
  go_wp2_with fail
  clear e1
  refine HC.out.mono ?_
  rintro e w2 ⟨rfl,hb2⟩
  have hb2:=below_then H1.out hb2 (lr_ _)
  have HE:=hd_ (below_then HB.out hb2 (lr_ _))
  have e2:=(HP.out w2 hb2).2.2.1
  have H2:=hd_ hb2
  clear hb2 HC H1
  cases r2 with
  |false=>
   have HRR:=hd_ (show false=RR by rw[HR.out];rfl)
   go_wp2
   go_ret
   exact⟨by rw[←HRR.out];rfl,HE.out⟩
  |true=>
   have HC:=hd_ (HM2.out w2)
   go_wp2_with fail
   clear e2
   refine HC.out.mono ?_
   rintro e w3 ⟨rfl,hb3⟩
   have hb3:=below_then H2.out hb3 (lr_ _)
   have HE:=hd_ (below_then HB.out hb3 (lr_ _))
   have e4:=(HP.out w3 hb3).2.2.2.2
   have H3:=hd_ hb3
   clear hb3 HC H2
   cases r3 with
   |false=>
    have HRR:=hd_ (show false=RR by rw[HR.out];rfl)
    go_wp2
    go_ret
    exact⟨by rw[←HRR.out];rfl,HE.out⟩
   |true=>
    have HC:=hd_ (HM3.out w3)
    go_wp2_with fail
    clear e4
    refine HC.out.mono ?_
    rintro e w4 ⟨rfl,hb4⟩
    have hb4:=below_then H3.out hb4 (lr_ _)
    have HE:=hd_ (below_then HB.out hb4 (lr_ _))
    have e3:=(HP.out w4 hb4).2.2.2.1
    have u3: ∀q,(w4.drewN q).cell? ⟨w.heap.size,3,none⟩=some (.slice A3 l3 k3):=fun q=>e3
    have HX:=hd_ (HI.out.1 w4 hb4)
    clear hb4 HC H3
    cases r5 with
    |false=>
     have HRR:=hd_ (show false=RR by rw[HR.out,Bool.and_false];rfl)
     go_wp2
     go_ret
     exact⟨by rw[←HRR.out];rfl,HE.out⟩
    |true=>
     by_cases h256:256<l3
     ·have hz:(256:Int)< (l3:Int):=by omega
      have HRR:=hd_ (show false=RR by rw[HR.out,decide_eq_false (by omega: ¬l3≤256)];rfl)
      clear h256
      go_wp2
      go_ret
      exact⟨by rw[←HRR.out];rfl,HE.out⟩
     ·have hz: ¬(256:Int)< (l3:Int):=by omega
      have HRR:=hd_ (show(!S)=RR by rw[HR.out,decide_eq_true (by omega:l3≤256)];simp)
      clear h256
      go_wp2_with fail
      clear e3
      go_loopg [4] (l3+1) (fun gk s4 wr=>∃(i:Nat) (v:Int) (q:Nat),s4=.int .i64 i∧i≤l3∧l3 - i<gk∧wr=w4.drewN q∧Hid (badS (c.sers.drop i) v=S∧ -1≤v∧(i=0→v= -1)∧(0<i→v=c.sers.getD (i - 1) 0)))
      case atStart=>exact⟨0, -1,0,rfl,by omega,by omega,rfl,hd_ ⟨by rw[List.drop_zero];exact HS.out,by omega,fun _=>rfl,fun h=>absurd h (by omega)⟩⟩
      case round=>
       obtain⟨i,v,q,rfl,hi,hgk,rfl,HV⟩:=hrel
       by_cases hlt:i<l3
       ·have hltz:(i:Int)< (l3:Int):=by omega
        obtain⟨gk',rfl⟩: ∃g',gk=g'+1:=⟨gk - 1,by omega⟩
        have HM:=hd_ (ai_ (show i+1≤l3 from hlt) (show l3 - (i+1)<gk' by omega))
        obtain⟨b,off,rfl,_,hcl⟩:=HX.out.2.2 (by omega)
        have hix:i<c.sers.length:=by rw[HI.out.2];exact hlt
        have hbd:=badS_drop (v:=v) hix
        rw[HV.out.1] at hbd
        have hc1: ∀q,(w4.drewN q).cell? ⟨b,off+i,none⟩=some (.int .i64 (c.sers.getD i 0)):=fun q=>hcl i hlt
        have hi0:(0:Int)≤(i:Int):=by omega
        have hnext: ∀y:Int,c.sers.getD i 0=y→ -1≤y→badS (c.sers.drop (i+1)) y=S→Hid (badS (c.sers.drop (i+1)) y=S∧ -1≤y∧(i+1=0→y= -1)∧(0<i+1→y=c.sers.getD (i+1 - 1) 0)):=fun y hy h1 h2=>hd_ ⟨h2,h1,fun h=>absurd h (by omega),fun _=>by rw[Nat.add_sub_cancel];exact hy.symm⟩
        have HNX:=hd_ hnext
        clear hnext
        by_cases h0:c.sers.getD i 0<0
        ·have HF:=hd_ (show S=true by rw[hbd,decide_eq_true (show c.sers.getD i 0≤v by have:=HV.out.2.1;omega)];rfl)
         obtain⟨y,hy⟩:=nm_ (c.sers.getD i 0)
         rw[hy] at hc1 h0
         clear hbd hy hcl
         go_wp2_with fail
         go_quiet (fail)
         go_wp2
         go_ret
         exact⟨by rw[←HRR.out,HF.out];rfl,⟨HE.out.os,HE.out.tape,HE.out.output,HE.out.size,HE.out.block⟩⟩
        ·by_cases hm:4611686018427387904<c.sers.getD i 0
         ·have HF:=hd_ (show S=true by rw[hbd,decide_eq_true hm];simp)
          obtain⟨y,hy⟩:=nm_ (c.sers.getD i 0)
          rw[hy] at hc1 h0 hm
          have hd0:decide (y<0)=false:=decide_eq_false h0
          have hdm:decide (4611686018427387904<y)=true:=decide_eq_true hm
          clear hbd hy hcl h0 hm
          go_wp2_with fail
          go_quiet (fail)
          go_wp2
          go_ret
          exact⟨by rw[←HRR.out,HF.out];rfl,⟨HE.out.os,HE.out.tape,HE.out.output,HE.out.size,HE.out.block⟩⟩
         ·by_cases hip:0<i
          ·have hipz:(0:Int)< (i:Int):=by omega
           have hv:=HV.out.2.2.2 hip
           have hcp:=hcl (i - 1) (by omega)
           rw[←hv] at hcp
           obtain⟨p,hp⟩:=nm_ (i - 1)
           rw[hp] at hcp
           have hc2: ∀q,(w4.drewN q).cell? ⟨b,off+p,none⟩=some (.int .i64 v):=fun q=>hcp
           have heq:((i:Nat):Int) - 1=((p:Nat):Int):=by omega
           have hp0:(0:Int)≤(p:Int):=by omega
           have hp1:(p:Int)< (l3:Int):=by omega
           have hp2:p<l3:=by omega
           have hwr:IntKind.i64.wrap ((i:Int) - 1)=(p:Int):=by rw[heq];exact IntWalk.i64_in _ (by omega)
           have hwp:IntKind.i64.wrap (p:Int)=(p:Int):=IntWalk.i64_in _ (by omega)
           by_cases hle:c.sers.getD i 0≤v
           ·have HF:=hd_ (show S=true by rw[hbd,decide_eq_true hle];rfl)
            obtain⟨y,hy⟩:=nm_ (c.sers.getD i 0)
            rw[hy] at hc1 h0 hm hle
            clear hbd hy hcl hcp hv hp
            go_wp2_with fail
            go_quiet (fail)
            go_wp2
            go_ret
            exact⟨by rw[←HRR.out,HF.out];rfl,⟨HE.out.os,HE.out.tape,HE.out.output,HE.out.size,HE.out.block⟩⟩
           ·have hb':badS (c.sers.drop (i+1)) (c.sers.getD i 0)=S:=by rw[hbd,decide_eq_false hle,decide_eq_false hm];simp
            have HF:=hd_ (HNX.out _ rfl (by omega) hb')
            obtain⟨y,hy⟩:=nm_ (c.sers.getD i 0)
            rw[hy] at hc1 h0 hm hle HF
            clear hbd hy hcl hcp hv hp hb'
            go_wp2_with fail
            go_quiet (fail)
            go_wp2
            go_roundg gk'
            case measure=>omega
            case rel=>exact⟨i+1,y,_,by go_num,HM.out.1,HM.out.2,rfl,HF⟩
          ·have hbz:decide ((0:Int)< (i:Int))=false:=decide_eq_false (by omega)
           have hbn:decide (0<i)=false:=decide_eq_false hip
           have hi0z:i=0:=by omega
           have HI0:=hd_ hi0z
           clear hi0z
           have hv:=HV.out.2.2.1 (by omega)
           have hb':badS (c.sers.drop (i+1)) (c.sers.getD i 0)=S:=by rw[hbd,decide_eq_false (show¬c.sers.getD i 0≤v by omega),decide_eq_false hm];simp
           have HF:=hd_ (HNX.out _ rfl (by omega) hb')
           obtain⟨y,hy⟩:=nm_ (c.sers.getD i 0)
           rw[hy] at hc1 h0 hm HF
           have hd0:decide (y<0)=false:=decide_eq_false h0
           have hdm:decide (4611686018427387904<y)=false:=decide_eq_false hm
           clear hbd hy hcl hv hb' hip h0 hm hbz
           go_wp2_with fail
           go_quiet (fail)
           go_wp2
           go_roundg gk'
           case measure=>omega
           case rel=>exact⟨i+1,y,_,by go_num,HM.out.1,HM.out.2,rfl,HF⟩
       ·obtain rfl:l3=i:=by omega
        have hltz: ¬(l3:Int)< (l3:Int):=by omega
        have HF:=hd_ (show S=false by rw[←HV.out.1,List.drop_eq_nil_of_le (by rw[HI.out.2];exact lr_ _)];rfl)
        go_wp2_with fail
        go_ret
        exact⟨by rw[←HRR.out,HF.out];rfl,⟨HE.out.os,HE.out.tape,HE.out.output,HE.out.size,HE.out.block⟩⟩
end Go.Proofs.YtconbejjagcnkaaGreatDoor.nmc
