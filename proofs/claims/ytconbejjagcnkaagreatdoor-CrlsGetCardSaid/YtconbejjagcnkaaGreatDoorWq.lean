/- The document's Get. The document's GetPrinc. What is read is small; what a list's node tells, step by step: plain. The document's Get of a list. The document's Lists. The library's tables as its text lays them. -/
import Derived.Test.YtconbejjagcnkaaGreatDoorYj
import Derived.Test.YtconbejjagcnkaaGreatDoorYh
import Derived.Test.YtconbejjagcnkaaGreatDoorWo
import Derived.Test.YtconbejjagcnkaaGreatDoorWh
import Derived.Test.YtconbejjagcnkaaGreatDoorPd
import Derived.Test.YtconbejjagcnkaaGreatDoorWi
import Derived.Test.YtconbejjagcnkaaGreatDoorWm
import Derived.Test.YtconbejjagcnkaaGreatDoorXc
import Derived.Test.YtconbejjagcnkaaGreatDoorRows
import Derived.ProofKit
import Derived.Deep.DeepHandedRow
import Derived.Lib.LaidTab
import Derived.Test.YtconbejjagcnkaaGreatDoorKb
import Derived.Test.YtconbejjagcnkaaGreatDoorShelf
import Derived.Lib.LaidU8T
import Derived.MakeChecks
import Derived.Lib.ValidLaws
import Derived.Lib.DecodeN
namespace Go.Proofs.YtconbejjagcnkaaGreatDoor.nmc
open Go.RowKit Go.Proofs.YtconbejjagcnkaaGreatDoor.tlvc Go.Proofs.YtconbejjagcnkaaGreatDoor.tlvd Go.Proofs.YtconbejjagcnkaaGreatDoor.ndc Go.Proofs.YtconbejjagcnkaaGreatDoor.txc Go.Proofs.YtconbejjagcnkaaGreatDoor.txm Go.Proofs.YtconbejjagcnkaaGreatDoor.intc Go.Proofs.YtconbejjagcnkaaGreatDoor.intm
set_option linter.unusedVariables false
set_option linter.unusedSimpArgs false
theorem Tryz.infA2:Inf Tryz.prog 23 90 atE.sz 40:=by
  obtain⟨i0,hi,hz0,hz1,hz2⟩:=info_parts Tryz.infoAttr2
  exact⟨Tryz.underlying23,i0,_,hi,hz0,hz1,hz2,rfl⟩
/-- What the document's Get tells; in blocks of its own. -/
def GetPostG (w:World)(r:Option (List At))(e:Ending)(w':World):Prop:=
  Below w.heap.size w w'∧match r with
    |none=>e=.returned (.tuple #[.slice none 0 0,.int .i64 91])
    |some l=>∃A c,e=.returned (.tuple #[.slice A l.length c,.int .i64 0])∧l.length≤c∧c≤maxLen∧Lst atE (fun g=>w.heap.size≤g) w' A l
theorem rgN_no {n:Nd}(h: ¬(kidsB n (-1)=true∧n.kids.all kOK=true∧rightN (n.kids.map toldA)=true)):rgN n=none:=by unfold rgN;rw[if_neg h]
theorem rgN_yes {n:Nd}(h:kidsB n (-1)=true)(h1:n.kids.all kOK=true)(h2:rightN (n.kids.map toldA)=true):rgN n=some (n.kids.map toldA):=by unfold rgN;rw[if_pos ⟨h,h1,h2⟩]
theorem all_no {α:Type}{P:α→Bool}{l:List α}{i:Nat}(hi:i<l.length)(h:P l[i]=false): ¬l.all P=true:=fun h2=>by
  have:=List.all_eq_true.1 h2 _ (List.getElem_mem hi)
  rw[h] at this
  cases this
theorem all_take {α:Type}{P:α→Bool}{l:List α}{i:Nat}(hi:i<l.length)(h:(l.take i).all P=true)(h2:P l[i]=true):(l.take (i+1)).all P=true:=by
  rw[List.take_succ_eq_append_getElem hi,List.all_append,h,List.all_cons,h2]
  rfl
theorem kOK_1 {k:Nd}(h:kidsB k 2=false):kOK k=false:=by unfold kOK;rw[h];rfl
theorem kOK_2 {k:Nd}(h:oidOK (kidF k 0)=false):kOK k=false:=by unfold kOK;rw[h];simp
theorem kOK_3 {k:Nd}(h:textOK 12 (kidF k 1)=false):kOK k=false:=by unfold kOK;rw[h];simp
theorem kOK_4 {k:Nd}(h:kidsB k 2=true)(h1:oidOK (kidF k 0)=true)(h2:textOK 12 (kidF k 1)=true):kOK k=true:=by unfold kOK;rw[h,h1,h2];rfl
set_option maxRecDepth 100000 in
set_option maxHeartbeats 8000000 in
theorem rget_any (B:Nat→Prop)(n:Nd)(c0 c1 c2:Value)(w:World)(hn:NdC B w n c0 c1 c2)(hks:n.kids.length≤70000)(hT:Tabs w):
    Calls Tryz.prog 27 #[.agg #[c0,c1,c2]] w (GetPostG w (rgN n)):=by
  have HNO:=Lib.hid (fun h=>rgN_no (n:=n) h)
  have HYES:=Lib.hid (fun h h1 h2=>rgN_yes (n:=n) h h1 h2)
  obtain⟨R,hR⟩: ∃x,rgN n=x:=⟨_,rfl⟩
  rw[hR] at HNO HYES⊢
  clear hR
  obtain⟨t,b,ks⟩:=n
  have hkk:(Nd.mk t b ks).kids=ks:=rfl
  rw[hkk] at HNO HYES hks
  obtain⟨rfl,ht,⟨A,la,ca,rfl,_,_,_,_⟩,K,ck,rfl,hK1,hK2,hK3⟩:=NdC.kidsL hn
  have h9:ck≤9223372036854775807:=by unfold maxLen at hK2;omega
  obtain⟨k,hk⟩: ∃x,ks.length=x:=⟨_,rfl⟩
  have hlk: ∀i,i≤k→((ks.take i).map toldA).length=i:=fun i hi=>by rw[List.length_map,List.length_take];omega
  have hkc:k≤ck:=by rw[←hk];exact hK1
  obtain⟨W0,hW0⟩: ∃x,w.alloc (.cells #[.int .u8 t,.slice A la ca,.slice K ks.length ck] 40)=x:=⟨_,rfl⟩
  have hb0:Below w.heap.size w W0:=by rw[←hW0];exact below_new _ _
  have q0:W0.heap[w.heap.size]? =some (.cells #[.int .u8 t,.slice A la ca,.slice K ks.length ck] 40):=by rw[←hW0];exact heap_new_ _ _
  obtain⟨x0,x1,x2⟩:=box3_ (Below.refl _ W0) q0
  have HK:=Lib.hid (kids_any _ (.mk t b ks) (-1) (.inl rfl) _ _ _ W0 (NdC.below hb0 _ _ _ _ hn))
  obtain⟨kb,hkb⟩: ∃x,kidsB (.mk t b ks) (-1)=x:=⟨_,rfl⟩
  rw[hkb] at HNO HYES HK
  rw[hk] at x2 HK hW0 hks⊢
  have HL:=Lib.hid (And.intro hk (And.intro hK3 (And.intro hb0 (And.intro hT (And.intro hlk hks)))))
  clear hk hK3 hb0 hT hlk q0 hK1 hK2 hn ht hkb hkk hks
  go_enter Tryz.func27,Tryz.ntmps27
  go_wp2_with fail
  refine HK.out.mono ?_
  clear HK
  cases kb with
  |false=>
   rw[if_neg (by decide)]
   rintro e w1 ⟨rfl,hb1⟩
   have hR:=HNO.out (fun h=>by cases h.1)
   have HF:=Lib.hid (below_then HL.out.2.2.1 hb1 (Nat.le_refl _))
   subst hR
   clear hb1 HNO HYES HL x0 x1 x2 hW0
   go_wp2
   go_ret2
   exact⟨HF.out,rfl⟩
  |true=>
   rw[if_pos rfl]
   rintro e w1 ⟨rfl,hb1⟩
   have HB1:=Lib.hid (below_then HL.out.2.2.1 hb1 (Nat.le_refl _))
   clear hb1 x0 x1 x2 hW0
   go_wp2_with fail
   go_loopg [6,7] (k+1) (fun gk s6 s7 wx=>∃(i:Nat) (Av:Option Addr) (cv:Nat),s6=.slice Av i cv∧s7=.int .i64 i∧i≤k∧k - i<gk∧Hid (LInv atE 90 (fun g=>w1.heap.size≤g) w1 (.slice Av i cv) ((ks.take i).map toldA) wx∧(ks.take i).all kOK=true))
   case atStart=>exact⟨0,none,0,rfl,rfl,by omega,by omega,Lib.hid ⟨LInv.start,rfl⟩⟩
   case round=>
     obtain⟨i,Av,cv,rfl,rfl,hi,hgk,HI⟩:=hrel
     by_cases hlt:i<k
     · have hltz:(i:Int)< (k:Int):=by omega
       obtain⟨gk',rfl⟩: ∃g',gk=g'+1:=⟨gk - 1,by omega⟩
       have HN:=Lib.hid (And.intro (show i+1≤k from hlt) (show k - (i+1)<gk' by omega))
       have hix:i<ks.length:=by rw[HL.out.1];exact hlt
       have hbw:=below_then HB1.out HI.out.1.bel (Nat.le_refl _)
       obtain⟨g,off,t1,A1,l1,k1,K1,m1,n1,rfl,e0,e1,e2,hn1⟩:=nd_cells HL.out.2.1 hbw i hix
       have hlk:=HL.out.2.2.2.2.1 i hi
       have hk5:=HL.out.2.2.2.2.2
       obtain⟨kd,hkd⟩: ∃x,ks[i]=x:=⟨_,rfl⟩
       rw[hkd] at hn1
       have hnx:(ks.take i).map toldA++[toldA kd]=(ks.take (i+1)).map toldA:=by rw[List.take_succ_eq_append_getElem hix,List.map_append,List.map_cons,List.map_nil,hkd]
       have HALL:=Lib.hid (fun(h:kOK kd=true)=>all_take hix HI.out.2 (by rw[hkd];exact h))
       have HNOT:=Lib.hid (fun(h:kOK kd=false)=>HNO.out (fun h2=>all_no hix (by rw[hkd];exact h) h2.2.1))
       have HC:=Lib.hid (kids_any _ kd 2 (.inr rfl) _ _ _ wr hn1)
       have HN1:=Lib.hid hn1
       have HX:=Lib.hid (And.intro hnx (And.intro hlk (And.intro hk5 hbw)))
       obtain⟨kb2,hkb2⟩: ∃x,kidsB kd 2=x:=⟨_,rfl⟩
       rw[hkb2] at HC
       have HKB:=Lib.hid hkb2
       clear hn1 hnx hlk hk5 hgk hbw hkd hkb2
       go_wp2_with fail
       refine HC.out.mono ?_
       clear HC e0 e1 e2
       cases kb2 with
       |false=>
        rw[if_neg (by decide)]
        rintro e w2 ⟨rfl,hb2⟩
        have hR:=HNOT.out (kOK_1 HKB.out)
        have HF:=Lib.hid (below_then HX.out.2.2.2 hb2 (Nat.le_refl _))
        subst hR
        clear hb2 HNO HYES HNOT HALL HL HN1 HX HKB HI
        go_wp2
        go_ret2
        exact⟨HF.out,rfl⟩
       |true=>
        rw[if_pos rfl]
        rintro e w2 ⟨rfl,hb2⟩
        obtain⟨rfl,g1,o1,t3,A3,l3,c3,K3,m3,d3,t4,A4,l4,c4,K4,m4,d4,rfl,h2c,h2m,e0,e1,e2,hka,f0,f1,f2,hkc⟩:=two_cells (NdC.below hb2 _ _ _ _ HN1.out) HKB.out
        have h29:n1≤9223372036854775807:=by unfold maxLen at h2m;omega
        have HO:=Lib.hid (oidOf_any _ (kidF kd 0) _ _ _ w2 hka)
        have hbw2:=below_then HX.out.2.2.2 hb2 (Nat.le_refl _)
        have HB2:=Lib.hid (And.intro hb2 hbw2)
        have HF:=Lib.hid (fun W (hW:Below w2.heap.size w2 W)=>And.intro (cell_on hW f0) (And.intro (cell_on hW f1) (cell_on hW f2)))
        have hkcw:=fun W (hW:Below w2.heap.size w2 W)=>NdC.below hW _ _ _ _ hkc
        have HTX:=Lib.hid (fun W (hW:Below w2.heap.size w2 W)=>textOf_any _ (kidF kd 1) 12 _ _ _ W (hkcw W hW) (HL.out.2.2.2.1.below (below_then hbw2 hW (Nat.le_refl _))))
        have hsz:(strOfNums (kidF kd 1).body).size≤maxLen:=by
          obtain⟨z1,z2,z3,z4⟩:=body_size hkc
          rw[strOfNums_size,z4];exact Nat.le_trans z1 z2
        have HSZ:=Lib.hid hsz
        obtain⟨ok1,hok1⟩: ∃x,oidOK (kidF kd 0)=x:=⟨_,rfl⟩
        obtain⟨ok2,hok2⟩: ∃x,textOK 12 (kidF kd 1)=x:=⟨_,rfl⟩
        rw[hok2] at HTX
        have HK1:=Lib.hid hok1
        have HK2:=Lib.hid hok2
        clear hb2 hbw2 hka hkc hkcw hsz f0 f1 f2 h2m hok1 hok2 HN1
        go_wp2_with fail
        refine HO.out.mono ?_
        rintro e w3 ⟨hb3,A5,c5,rfl,hh⟩
        rw[HK1.out]
        have HH:=Lib.hid hh
        clear HO e0 e1 e2 hh
        obtain⟨f0,f1,f2⟩:=HF.out w3 hb3
        have HC:=Lib.hid (HTX.out w3 hb3)
        have HB3:=Lib.hid hb3
        obtain⟨ys,hys⟩: ∃x,(oidF (kidF kd 0).body).1=x:=⟨_,rfl⟩
        obtain⟨S,hS⟩: ∃x,strOfNums (kidF kd 1).body=x:=⟨_,rfl⟩
        have htd:toldA kd=⟨ys,S⟩:=by rw[←hys,←hS];rfl
        rw[hS] at HC HSZ
        rw[hys] at HH⊢
        have HTD:=Lib.hid htd
        clear hb3 HTX HF hys hS htd
        go_wp2_with fail
        refine HC.out.mono ?_
        rintro e w4 ⟨rfl,hb4⟩
        have HB4:=Lib.hid (below_then HB3.out hb4 (Nat.le_refl _))
        have HH4:=Lib.hid (show IHere w2.heap.size A5 c5 ys w4 from⟨HH.out.1.below hb4,HH.out.2⟩)
        clear HC f0 f1 f2 hb4 HH HB3
        cases ok1 with
        |false=>
         have hR:=HNOT.out (kOK_2 HK1.out)
         have HF:=Lib.hid (below_then HB2.out.2 HB4.out (Nat.le_refl _))
         subst hR
         clear HNO HYES HNOT HALL HL HX HKB HI HB2 HB4 HH4 HTD HSZ HK1 HK2
         go_wp2
         go_ret2
         exact⟨HF.out,rfl⟩
        |true=>
         cases ok2 with
         |false=>
          have hR:=HNOT.out (kOK_3 HK2.out)
          have HF:=Lib.hid (below_then HB2.out.2 HB4.out (Nat.le_refl _))
          subst hR
          clear HNO HYES HNOT HALL HL HX HKB HI HB2 HB4 HH4 HTD HSZ HK1 HK2
          go_wp2
          go_ret2
          exact⟨HF.out,rfl⟩
         |true=>
          have hall:=HALL.out (kOK_4 HKB.out HK1.out HK2.out)
          have h4:=below_then HB2.out.1 HB4.out (Nat.le_refl _)
          have hw1:=HI.out.1.bel.size
          have hw2:=HB2.out.1.size
          have hfr:0<ys.length→∀g off sp,A5=some ⟨g,off,sp⟩→w2.heap.size≤g:=fun hn g off sp e=>by
            obtain⟨b',off',e',hb',_⟩:=HH4.out.1.2.2 hn
            have:=HH4.out.2.2.2 b' off' e'
            rw[e'] at e;cases e;omega
          obtain⟨A7,c7,w7,hrun,hI7⟩:=HI.out.1.push Tryz.infA2 (fun g hg=>hg) (below_then h4 (below_new w4 (.cells #[.slice A5 ys.length c5,.string S] 90)) (Nat.le_refl _)) (x:=toldA kd) (news:=[.slice A5 ys.length c5,.string S]) (by
            rw[HTD.out]
            exact⟨_,_,rfl,A5,ys.length,c5,rfl,rfl,HH4.out.2.1,HH4.out.2.2.1,HH4.out.1.below (below_new _ _),fun hl g off sp e=>⟨Nat.le_trans hw1 (Nat.le_trans hw2 (hfr hl g off sp e)),.inr (Nat.le_trans hw2 (hfr hl g off sp e))⟩,HSZ.out⟩) (g1:=w4.heap.size) h4.size (heap_new_ _ _) (fun j u hu=>by
            simpa using hu) (by rw[HX.out.2.1];have:=HX.out.2.2.1;omega) (by rw[HX.out.2.1];have:=HX.out.2.2.1;unfold maxLen;omega)
          rw[HX.out.2.1] at hrun hI7
          rw[HX.out.1] at hI7
          have HI7:=Lib.hid (And.intro hI7 hall)
          clear hI7 hall h4 hw1 hw2 hfr HNO HYES HNOT HALL HX HKB HB2 HB4 HH4 HTD HSZ HK1 HK2
          go_wp2_with (at_builtin;refine wpl_append rfl (.tmp 58) (.tmp 62) 23 rfl _ _ _ rfl rfl hrun ?_)
          clear hrun
          go_wp2
          go_roundg gk'
          case measure=>omega
          case rel=>exact⟨i+1,A7,c7,rfl,by go_num,HN.out.1,HN.out.2,HI7⟩
     · obtain rfl:k=i:=by omega
       have hltz: ¬(k:Int)< (k:Int):=by omega
       have htk:ks.take k=ks:=by rw[←HL.out.1];exact List.take_length
       obtain⟨A2,c2,e2,h1,h2,hLn⟩:=HI.out.1.row.lst (fun g hg=>hg)
       have hlk:=HL.out.2.2.2.2.1 k (Nat.le_refl _)
       rw[hlk] at e2 h1
       rw[htk] at hLn hlk
       simp only[Value.slice.injEq] at e2
       obtain⟨rfl,_,rfl⟩:=e2
       have hbw:=below_then HB1.out HI.out.1.bel (Nat.le_refl _)
       have hall:=HI.out.2
       rw[htk] at hall
       have HRR:=Lib.hid (rright_any _ Av k cv (ks.map toldA) wr hlk hLn h1 h2 (HL.out.2.2.2.1.below hbw))
       obtain⟨rn,hrn⟩: ∃x,rightN (ks.map toldA)=x:=⟨_,rfl⟩
       rw[hrn] at HRR
       have HF:=Lib.hid (And.intro hbw (And.intro h1 (And.intro h2 (And.intro hLn (And.intro hlk (And.intro hall hrn))))))
       clear h1 h2 hLn hgk hlk htk hbw hall hrn HI
       go_wp2_with fail
       refine HRR.out.mono ?_
       rintro e w5 ⟨rfl,hb5⟩
       have HB5:=Lib.hid hb5
       clear hb5 HRR
       cases rn with
       |false=>
        have hR:=HNO.out (fun h=>by have:=h.2.2;rw[HF.out.2.2.2.2.2.2] at this;cases this)
        have HE:=Lib.hid (below_then HF.out.1 HB5.out (Nat.le_refl _))
        subst hR
        clear HNO HYES HF HB5 HL
        go_wp2
        go_ret2
        exact⟨HE.out,rfl⟩
       |true=>
        have hR:=HYES.out (by trivial) HF.out.2.2.2.2.2.1 HF.out.2.2.2.2.2.2
        have HE:=Lib.hid (below_then HF.out.1 HB5.out (Nat.le_refl _))
        subst hR
        clear HNO HYES HL
        go_wp2
        go_ret2
        exact⟨HE.out,Av,cv,by rw[HF.out.2.2.2.2.1];rfl,by rw[HF.out.2.2.2.2.1];exact HF.out.2.1,HF.out.2.2.1,(HF.out.2.2.2.1.below HB5.out).mono (fun g hg=>Nat.le_trans HB1.out.size hg)⟩
end Go.Proofs.YtconbejjagcnkaaGreatDoor.nmc
set_option maxRecDepth 100000
set_option maxHeartbeats 16000000
set_option linter.unusedVariables false
set_option linter.unusedSimpArgs false
namespace Go.Proofs.YtconbejjagcnkaaGreatDoor.ndc
open Go.RowKit Go.Proofs.YtconbejjagcnkaaGreatDoor.tlvc Go.Proofs.YtconbejjagcnkaaGreatDoor.tlvd
def small:Nat→Nd→Prop
  |0,_=>True
  |d+1,n=>n.kids.length≤65535∧∀k∈n.kids,small d k
theorem readL_small {rec:Nat→RR}{xs:List Int}{P:Nd→Prop}(hrec: ∀a n nx,rec a=.ok n nx→P n): ∀(f next:Nat) (k k':RK),readL rec xs f next k=.ok k'→k'.kids.length≤k.kids.length+f∧((∀n∈k.kids,P n)→∀n∈k'.kids,P n)
  |0,next,k,k',h=>by
   unfold readL at h
   cases h
   exact⟨Nat.le_refl _,fun hp=>hp⟩
  |f+1,next,k,k',h=>by
   unfold readL at h
   split at h
   · split at h
     · cases h
     · rename_i n nx hr
       obtain⟨h1,h2⟩:=readL_small hrec f nx _ k' h
       have hl:(k.add n ((xs.take nx).drop next)).kids.length=k.kids.length+1:=by
         show(k.kids++[n]).length=_
         simp
       refine⟨by omega,fun hp=>h2 fun m hm=>?_⟩
       have hm:m∈k.kids++[n]:=hm
       rcases List.mem_append.1 hm with hm |hm
       · exact hp m hm
       · rw[List.mem_singleton.1 hm];exact hrec _ _ _ hr
   · cases h
     exact⟨by omega,fun hp=>hp⟩
theorem read_small: ∀(e d outer:Nat) (xs:List Int) (at_:Nat) (n:Nd) (nx:Nat),Fit xs→readF d outer xs at_=.ok n nx→small e n
  |0,_,_,_,_,_,_,_,_=>trivial
  |e+1,0,_,_,_,_,_,_,h=>by unfold readF at h;cases h
  |e+1,d+1,outer,xs,at_,n,nx,hf,h=>by
   unfold readF at h
   obtain⟨q,hq⟩: ∃q:Int × Int × Int × Int,headF (xs.drop at_)=q:=⟨_,rfl⟩
   obtain⟨h0,t,k,m⟩:=q
   simp only[hq] at h
   split at h
   · cases h
   · rename_i he
     have he:h0=0:=Classical.not_not.1 he
     subst he
     have hok:=headF_ok (xs.drop at_) (fun x hx=>hf x (List.mem_of_mem_drop hx)) t k m hq
     split at h
     · cases h
     · split at h
       · cases h
         exact⟨Nat.zero_le _,fun k hk=>by cases hk⟩
       · split at h
         · cases h
         · rename_i kk hl
           split at h
           · cases h
           · cases h
             obtain⟨h1,h2⟩:=readL_small (P:=small e) (fun a n nx hr=>read_small e d _ _ _ _ _ (fun x hx=>hf x (List.mem_of_mem_take hx)) hr) _ _ _ _ hl
             refine⟨?_,h2 (fun n hn=>by cases hn)⟩
             show kk.kids.length≤65535
             have h1:kk.kids.length≤0+_:=h1
             omega
theorem readAll_small {xs:List Int}{n:Nd}{nx:Nat}(hf:Fit xs)(h:readAllF xs=.ok n nx)(e:Nat):small e n:=by
  unfold readAllF at h
  split at h
  · cases h
  · rename_i hr
    split at h
    · cases h
    · cases h
      exact read_small e 33 0 xs 0 _ _ hf hr
end Go.Proofs.YtconbejjagcnkaaGreatDoor.ndc
namespace Go.Proofs.YtconbejjagcnkaaGreatDoor.nmc
open Go.RowKit tlvc tlvd ndc txc txm intc intm vtc
theorem putL_rt {c:Cr}{b:List Int}(h:putL c=.ok b):rightL c=true∧writeF (nodeL c) 0=.ok b:=by
 unfold putL at h
 split at h
 ·rename_i hr;exact⟨hr,h⟩
 ·cases h
theorem resL_no {xs:List Int}{nd:Nd}{nx:Nat}(h:readAllF xs=.ok nd nx)(hno: ∀c,rightL c=true→putL c=.ok xs→nd=nodeL c→False):((121:Int),(none:Option Cr))=resL xs:=by
 cases hr:resL xs with
 |mk er o=>
  cases o with
  |some c=>
   obtain⟨_,hp⟩:=resL_some hr
   obtain⟨h1,h2⟩:=putL_rt hp
   have:=(read_all_back h2).symm.trans h
   cases this
   exact(hno c h1 hp rfl).elim
  |none=>
   unfold resL at hr
   rw[h] at hr
   simp only[] at hr
   split at hr
   ·exact hr
   ·cases hr
theorem timeK_back {s:Int}(h:InR s):timeK (timeNd s)=true:=by
 have h1:=(okT_back h).1
 show(decide (timeE (tagOf s) (bodyOf s)=0) && decide ((([]:List Nd)).length=0))=true
 have he:timeE (tagOf s) (bodyOf s)=0:=by unfold timeE;rw[if_pos h1]
 rw[decide_eq_true he];rfl
theorem hK_back (n:Int):plainB (hNd n) 4=true:=rfl
theorem intOK_back {v:Int}(h:serB v=true):intOK (numN v)=true:=by
 have h:=serB_iff.1 h
 show(decide ((intF (putI v)).2=0) && plainB (numN v) 2)=true
 rw[intF_put' (show I64 v by unfold I64;omega)]
 rfl
theorem ng3 {w w':World}{r:Option (List At)}{e:Ending}(h:GetPostG w r e w'):Below w.heap.size w w'∧∃A l k er,e=.returned (.tuple #[.slice A l k,.int .i64 er])∧LsC atE (fun g=>w.heap.size≤g) w' (r.getD []) (.slice A l k)∧(er=0↔r≠none):=by
 obtain⟨hb,h⟩:=h
 cases r with
 |none=>obtain rfl:=h;exact⟨hb,_,_,_,_,rfl,LsC.nil,⟨fun h=>absurd h (by decide),fun h=>absurd rfl h⟩⟩
 |some y=>obtain⟨A,k,rfl,h1,h2,h3⟩:=h;exact⟨hb,_,_,_,_,rfl,⟨A,k,rfl,h1,h2,h3⟩,⟨fun _=>Option.some_ne_none _,fun _=>rfl⟩⟩
theorem SR.pushW {wy W W2:World}{b:Nat}{v:Value}{n:Nat}{xs:List Int}{x:Int}(h:SR wy b v n xs W)(hz:wy.heap.size≤W.heap.size)(hb:Below W.heap.size W W2)(hx:I64 x)(hn:n≤100000):
 ∃A c W3,(Builtin.append_ #[24,24] 24 #[v,.slice (some ⟨W2.heap.size,0,none⟩) 1 1]).run Tryz.prog (W2.alloc (.cells #[.int .i64 x] 2))=.ok (.slice A (n+1) c) W3∧SR wy b (.slice A (n+1) c) (n+1) (xs++[x]) W3∧wy.heap.size≤W3.heap.size∧∀g,g<wy.heap.size→W3.heap[g]? =W.heap[g]? :=by
 have hb2:=below_then hb (below_new W2 (.cells #[.int .i64 x] 2)) (lr_ _)
 have hown:=own_keep h.own (fun g _ hg=>hb2.block g hg)
 have hins:Ins (W2.alloc (.cells #[.int .i64 x] 2)) (some ⟨W2.heap.size,0,none⟩) 1 [x]:=⟨rfl,fun y hy=>by simp only[List.mem_singleton] at hy;subst hy;exact hx,fun _=>⟨_,0,rfl,by simp,fun j hj=>by
  obtain rfl:j=0:=by omega
  exact(ch_ (heap_new_ W2 (.cells #[.int .i64 x] 2)) 0).trans rfl⟩⟩
 obtain⟨i0,hi,hz0,hz1,hz2⟩:=info_parts Tryz.infoI64
 obtain⟨v',W3,hr,ho,hg,_⟩:=run_iapp (P:=Tryz.prog) (W2.alloc (.cells #[.int .i64 x] 2)) wy.heap.size 24 24 2 i0 (.int .i64 0) Tryz.underlying24 hi hz0 hz1 hz2 rfl v n _ hown (some ⟨W2.heap.size,0,none⟩) 1 1 [x] hins (by omega) (by have:=hb2.size;omega)
 have hlt:=h.own.lt
 have hsh: ∃A c,v'=.slice A (n+1) c:=by
  rcases ho.2 with ⟨rfl,h0⟩ | ⟨g,cap,cur,e1,_⟩
  ·omega
  ·exact⟨_,cap,e1⟩
 obtain⟨A,c,rfl⟩:=hsh
 have ek: ∀g,g<wy.heap.size→W3.heap[g]? =W.heap[g]? :=fun g hg'=>(hg.block g (by have:=hb2.size;omega) (fun e=>by have:=(hlt g e.symm).1;omega)).trans (hb2.block g (by omega))
 refine⟨A,c,W3,hr,⟨?_,h.low,?_,h.fit.app (fun y hy=>by simp only[List.mem_singleton] at hy;subst hy;exact hx)⟩,?_,ek⟩
 ·exact(h.bel.trans (hb2.mono (by have:=h.low;omega))).grown hg (by have:=h.low;have:=hb2.size;omega) (fun j hj=>by have:=(hlt j hj).1;have:=h.low;omega)
 ·have:ivals (xs++[x])=ivals xs++ivals [x]:=by unfold ivals;rw[List.map_append]
  rw[this];exact ho
 ·have:=hg.size;have:=hb2.size;omega
theorem two_of {α:Type}{l:List α}(h:l.length=2): ∃a b,l=[a,b]:=by
 match l,h with
 | [a,b],_=>exact⟨a,b,rfl⟩
theorem four_of {α:Type}{l:List α}(h:l.length=4): ∃a b c d,l=[a,b,c,d]:=by
 match l,h with
 | [a,b,c,d],_=>exact⟨a,b,c,d,rfl⟩
theorem told_eq {c:Cr}{m0 m1 m2 m3 n1:Nd}(hr:rightL c=true)(h0:m0=nameN c.iss)(h1:m1=timeNd c.ths)(h2:m2=timeNd c.nxt)(h3:m3=sersN c.sers)(h4:n1=hNd c.sig):
 (⟨(getN m0).getD [],timeN m1.tag m1.body,timeN m2.tag m2.body,m3.kids.map (fun k=>(intF k.body).1),(numF n1.body).getD (-1)⟩:Cr)=c:=by
 subst h0 h1 h2 h3 h4
 obtain⟨q1,q2,q3,q4,q5⟩:=rightL_parts hr
 unfold sersB at q4
 simp only[Bool.and_eq_true] at q4
 rw[getN_name q1,timeN_back q2,timeN_back q3,show(sersN c.sers).kids=c.sers.map numN from rfl,sers_back _ q4.2.1,show(hNd c.sig).body=hbF c.sig from rfl,num_hb q5]
 rfl
theorem node_parts {c:Cr}{t t0:Int}{b b0:List Int}{m0 m1 m2 m3 n1:Nd}(h:Nd.mk t b [.mk t0 b0 [m0,m1,m2,m3],n1]=nodeL c):m0=nameN c.iss∧m1=timeNd c.ths∧m2=timeNd c.nxt∧m3=sersN c.sers∧n1=hNd c.sig:=by
 unfold nodeL bodyL at h
 simp only[Nd.mk.injEq,List.cons.injEq,and_true] at h
 obtain⟨_,_,⟨_,_,h1,h2,h3,h4⟩,h5⟩:=h
 exact⟨h1,h2,h3,h4,h5⟩
end Go.Proofs.YtconbejjagcnkaaGreatDoor.nmc
set_option maxRecDepth 100000
set_option maxHeartbeats 16000000
set_option linter.unusedVariables false
set_option linter.unusedSimpArgs false
namespace Go.Proofs.YtconbejjagcnkaaGreatDoor.nmc
open Go.RowKit tlvc tlvd ndc txc txm intc intm vtc
theorem rgetL_any (A:Option Addr)(n k:Nat)(xs:List Int)(w:World)(hx:Bys w A n xs)(hc:n≤k)(hm:k≤maxLen)(hT:Tabs w):
 Calls Tryz.prog 11 #[.slice A n k] w (RGetL w (resL xs)):=by
 obtain⟨W0,hW0⟩:=nm_ (w.alloc (.cells #[.slice none 0 0,.int .i64 0,.int .i64 0,.slice none 0 0,.int .i64 0] 26))
 have hb0:Below w.heap.size w W0:=by rw[←hW0];exact below_new _ _
 have p0:W0.heap[w.heap.size]? =some (.cells #[.slice none 0 0,.int .i64 0,.int .i64 0,.slice none 0 0,.int .i64 0] 26):=by rw[←hW0];exact heap_new_ _ _
 have hz0:W0.heap.size=w.heap.size+1:=by rw[←hW0];simp
 have HP:=hd_ (refParse_any A n k xs W0 (hx.below hb0) hc hm (hT.below hb0))
 obtain⟨R,hR⟩:=nm_ (readAllF xs)
 rw[hR] at HP
 obtain⟨RES,hRES⟩:=nm_ (resL xs)
 rw[hRES]
 have HR:=hd_ (ai_ hR hRES)
 have HA:=hd_ (ai_ hb0 (ai_ p0 (ai_ hz0 (ai_ (hT.below hb0) (hx.below hb0)))))
 have hfx:=hx.fit
 clear hb0 p0 hz0 hx hT hR hRES hm
 go_enter Tryz.func11,Tryz.ntmps11
 go_wp2_with fail
 refine HP.out.mono ?_
 rintro e w1 ⟨hb1,hpost⟩
 cases R with
 |bad a er=>
  have hne:er≠0:=readAll_ne HR.out.1
  have HRR:=hd_ (show(er,none)=RES by rw[←HR.out.2];unfold resL;rw[HR.out.1])
  obtain rfl:=hpost
  have hbn:=below_then hb1 (below_new w1 (.cells #[.int .u8 0,.slice none 0 0,.slice none 0 0] 40)) (lr_ _)
  clear hb1 HP hfx
  go_upto_region 2 with fail
  obtain⟨Wn,hWn⟩:=nm_ (w1.alloc (.cells #[.int .u8 0,.slice none 0 0,.slice none 0 0] 40))
  rw[hWn] at hbn⊢
  clear hWn
  have q:=(hbn.block w.heap.size (by have:=HA.out.2.2.1;omega)).trans HA.out.2.1
  obtain⟨f0,f1,f2,f3,f4⟩:=fz5 q
  obtain⟨s0,s1,s2,s3,s4⟩:=box5 q
  have HRS:=hd_ (box5 (set5_box q (.slice none 0 0) (.int .i64 0) (.int .i64 0) (.slice none 0 0) (.int .i64 0)))
  have HE:=hd_ (below_then HA.out.1 hbn (lr_ _))
  clear hbn q
  go_wp2_with fail
  obtain⟨r0,r1,r2,r3,r4⟩:=HRS.out
  unfold set5 at r0 r1 r2 r3 r4
  refine bodyPost_ret (v:=.tuple #[.agg #[.slice none 0 0,.int .i64 0,.int .i64 0,.slice none 0 0,.int .i64 0],.int .i64 er]) ?_ rfl (by rw[←HRR.out];exact⟨set5_below (lr_ _) HE.out _ _ _ _ _,rfl⟩)
  simp[results,Tryz.results11,go_sem,r0,r1,r2,r3,r4]
 |ok nd nx=>
  obtain⟨v,rfl,c0,c1,c2,rfl,hn⟩:=hpost
  obtain⟨t1,D1,d1,g1,K1,k1,u1,rfl,rfl,rfl⟩:=hn.shape
  obtain⟨W2,hW2⟩:=nm_ (w1.alloc (.cells #[.int .u8 t1,.slice D1 d1 g1,.slice K1 k1 u1] 40))
  have hb2:Below w1.heap.size w1 W2:=by rw[←hW2];exact below_new _ _
  have v2:W2.heap[w1.heap.size]? =some (.cells #[.int .u8 t1,.slice D1 d1 g1,.slice K1 k1 u1] 40):=by rw[←hW2];exact heap_new_ _ _
  have hbw:=below_then hb1 hb2 (lr_ _)
  have hsm:=readAll_small hfx HR.out.1 3
  have hno:=fun hno=>(resL_no HR.out.1 hno).trans HR.out.2
  have HNO:=hd_ hno
  have hn2:=NdC.below hb2 _ _ _ _ hn
  obtain⟨b4,hb4⟩:=nm_ w1.heap.size
  rw[hb4] at v2
  obtain⟨tt,bb,kk⟩:=nd
  obtain⟨_,_,_,K',ck,eK,hK1,hK2,hK3⟩:=NdC.kidsL hn2
  obtain⟨eK1,eK2,eK3⟩:K1=K'∧k1=kk.length∧u1=ck:=by simp only[Value.slice.injEq] at eK;exact eK
  subst eK1 eK3
  have HV:=hd_ (fun W (hW:Below W2.heap.size W2 W)=>(st3 ((hW.block _ (Array.getElem?_eq_some_iff.1 v2).1).trans v2)).2)
  have HB2:=hd_ hbw
  obtain⟨x0,x1,x2⟩:=HV.out W2 (br_ _ _)
  have hu9:u1≤9223372036854775807:=by unfold maxLen at hK2;omega
  have HK2:=hd_ eK2
  clear hb1 hb2 v2 hn hn2 hbw HP hno eK hK2 eK2
  by_cases h2:k1=2
  ·obtain⟨n0,n1,rfl⟩:=two_of (HK2.out.symm.trans h2)
   subst h2
   obtain⟨g0,o0,t0,A0,l0,j0,K2,k2,u2,rfl,z0,z1,z2,hn0⟩:=nd_cells hK3 (br_ _ W2) 0 (by simp)
   obtain⟨g0',o0',tq,Aq,lq,jq,Kq,kq,uq,eq1,y0,y1,y2,hn1⟩:=nd_cells hK3 (br_ _ W2) 1 (by simp)
   cases eq1
   have hn0:NdC (fun g=>W0.heap.size≤g) W2 n0 (.int .u8 t0) (.slice A0 l0 j0) (.slice K2 k2 u2):=hn0
   have hn1:NdC (fun g=>W0.heap.size≤g) W2 n1 (.int .u8 tq) (.slice Aq lq jq) (.slice Kq kq uq):=hn1
   have z2:W2.cell? ⟨g0,o0+2,none⟩=some (.slice K2 k2 u2):=by simpa using z2
   have y0:W2.cell? ⟨g0,o0+3,none⟩=some (.int .u8 tq):=by simpa using y0
   have y1:W2.cell? ⟨g0,o0+4,none⟩=some (.slice Aq lq jq):=by simpa using y1
   have y2:W2.cell? ⟨g0,o0+5,none⟩=some (.slice Kq kq uq):=by simpa using y2
   have HN1:=hd_ (fun W (hW:Below W2.heap.size W2 W)=>ai_ (cell_on hW y0) (ai_ (cell_on hW y1) (ai_ (cell_on hW y2) (NdC.below hW _ _ _ _ hn1))))
   obtain⟨s0,b0,ms⟩:=n0
   obtain⟨_,_,_,K',ck,eK,hL1,hL2,hL3⟩:=NdC.kidsL hn0
   obtain⟨eK1,eK4,eK3⟩:K2=K'∧k2=ms.length∧u2=ck:=by simp only[Value.slice.injEq] at eK;exact eK
   subst eK1 eK3
   have hv9:u2≤9223372036854775807:=by unfold maxLen at hL2;omega
   have HK4:=hd_ eK4
   clear z0 z1 y0 y1 y2 hn0 hn1 eK hK3 hL2 eK4
   by_cases h4:k2=4
   ·obtain⟨m0,m1,m2,m3,rfl⟩:=four_of (HK4.out.symm.trans h4)
    subst h4
    obtain⟨g2,o2,ta,Aa,la,ja,Ka,ka,ua,rfl,a0,a1,a2,hm0⟩:=nd_cells hL3 (br_ _ W2) 0 (by simp)
    obtain⟨g',o',tb,Ab,lb,jb,Kb,kb,ub,eq1,d0,d1',d2,hm1⟩:=nd_cells hL3 (br_ _ W2) 1 (by simp)
    cases eq1
    obtain⟨g',o',tc,Ac,lc,jc,Kc,kc,uc,eq1,e0,e1,e2,hm2⟩:=nd_cells hL3 (br_ _ W2) 2 (by simp)
    cases eq1
    obtain⟨g',o',td,Ad,ld,jd,Kd,kd,ud,eq1,i0,i1,i2,hm3⟩:=nd_cells hL3 (br_ _ W2) 3 (by simp)
    cases eq1
    have hm0:NdC (fun g=>W0.heap.size≤g) W2 m0 (.int .u8 ta) (.slice Aa la ja) (.slice Ka ka ua):=hm0
    have hm1:NdC (fun g=>W0.heap.size≤g) W2 m1 (.int .u8 tb) (.slice Ab lb jb) (.slice Kb kb ub):=hm1
    have hm2:NdC (fun g=>W0.heap.size≤g) W2 m2 (.int .u8 tc) (.slice Ac lc jc) (.slice Kc kc uc):=hm2
    have hm3:NdC (fun g=>W0.heap.size≤g) W2 m3 (.int .u8 td) (.slice Ad ld jd) (.slice Kd kd ud):=hm3
    have a0:W2.cell? ⟨g2,o2,none⟩=some (.int .u8 ta):=by simpa using a0
    have a1:W2.cell? ⟨g2,o2+1,none⟩=some (.slice Aa la ja):=by simpa using a1
    have a2:W2.cell? ⟨g2,o2+2,none⟩=some (.slice Ka ka ua):=by simpa using a2
    have d0:W2.cell? ⟨g2,o2+3,none⟩=some (.int .u8 tb):=by simpa using d0
    have d1':W2.cell? ⟨g2,o2+4,none⟩=some (.slice Ab lb jb):=by simpa using d1'
    have d2:W2.cell? ⟨g2,o2+5,none⟩=some (.slice Kb kb ub):=by simpa using d2
    have e0:W2.cell? ⟨g2,o2+6,none⟩=some (.int .u8 tc):=by simpa using e0
    have e1:W2.cell? ⟨g2,o2+7,none⟩=some (.slice Ac lc jc):=by simpa using e1
    have e2:W2.cell? ⟨g2,o2+8,none⟩=some (.slice Kc kc uc):=by simpa using e2
    have i2:W2.cell? ⟨g2,o2+11,none⟩=some (.slice Kd kd ud):=by simpa using i2
    have HM1:=hd_ (fun W (hW:Below W2.heap.size W2 W)=>ai_ (cell_on hW d0) (ai_ (cell_on hW d1') (ai_ (cell_on hW d2) (NdC.below hW _ _ _ _ hm1))))
    have HM2:=hd_ (fun W (hW:Below W2.heap.size W2 W)=>ai_ (cell_on hW e0) (ai_ (cell_on hW e1) (ai_ (cell_on hW e2) (NdC.below hW _ _ _ _ hm2))))
    have HM3:=hd_ (fun W (hW:Below W2.heap.size W2 W)=>ai_ (cell_on hW i2) (NdC.below hW _ _ _ _ hm3))
    have HTE:=hd_ (fun(c:Cr) (hr:rightL c=true) (h:Nd.mk tt bb [Nd.mk s0 b0 [m0,m1,m2,m3],n1]=nodeL c)=>told_eq hr (node_parts h).1 (node_parts h).2.1 (node_parts h).2.2.1 (node_parts h).2.2.2.1 (node_parts h).2.2.2.2)
    have hks:m0.kids.length≤70000:=by
     have q:=hsm.2 _ (List.mem_cons_self ..)
     have q:=q.2 m0 (List.mem_cons_self ..)
     have:=q.1
     omega
    have hge:=rget_any _ m0 _ _ _ W2 hm0 hks (HA.out.2.2.2.1.below HB2.out)
    rw[←getN_rg (fit2_of hm0)] at hge
    obtain⟨R0,hR0⟩:=nm_ (getN m0)
    rw[hR0] at hge
    have HC:=hd_ hge
    have HQ0:=hd_ hR0
    have HTM1:=hd_ (fun W (hW:Below W2.heap.size W2 W)=>rtimeOf_any _ m1 _ _ _ W (HM1.out W hW).2.2.2)
    have HTM2:=hd_ (fun W (hW:Below W2.heap.size W2 W)=>rtimeOf_any _ m2 _ _ _ W (HM2.out W hW).2.2.2)
    have HHN:=hd_ (fun W (hW:Below W2.heap.size W2 W)=>rhandleOf_any _ n1 _ _ _ W (HN1.out W hW).2.2.2)
    have hi64:I64 ((numF n1.body).getD (-1)):=by
     cases hq:numF n1.body with
     |none=>show I64 (-1);unfold I64;decide
     |some v=>exact numF_i64 (body_size (HN1.out W2 (br_ _ _)).2.2.2).2.2.1.fit hq
    obtain⟨vt1,hvt1⟩:=nm_ (timeN m1.tag m1.body)
    obtain⟨vt2,hvt2⟩:=nm_ (timeN m2.tag m2.body)
    obtain⟨sg,hsg⟩:=nm_ ((numF n1.body).getD (-1))
    obtain⟨kt1,hkt1⟩:=nm_ (timeK m1)
    obtain⟨kt2,hkt2⟩:=nm_ (timeK m2)
    obtain⟨kh,hkh⟩:=nm_ ((numF n1.body).isSome && plainB n1 4)
    rw[hvt1,hkt1] at HTM1
    rw[hvt2,hkt2] at HTM2
    rw[hsg,hkh] at HHN
    rw[hsg] at hi64
    have HVV:=hd_ (ai_ hvt1 (ai_ hvt2 (ai_ hsg (ai_ hkt1 (ai_ hkt2 (ai_ hkh (ai_ (show I64 vt1 by rw[←hvt1];exact timeN_i64 _ _) (ai_ (show I64 vt2 by rw[←hvt2];exact timeN_i64 _ _) hi64))))))))
    have HSM:=hd_ (show m3.kids.length≤65535 from((hsm.2 _ (List.mem_cons_self ..)).2 m3 (by simp[Nd.kids])).1)
    clear hvt1 hvt2 hsg hkt1 hkt2 hkh hi64 hge hR0 hks hm0 hm1 hm2 hm3 d0 d1' d2 e0 e1 e2 i0 i1 i2 hsm hL3 hfx
    go_wp2_with fail
    clear x0 x1 x2 z2 a0 a1 a2
    refine HC.out.mono ?_
    rintro e w3 hp3
    obtain⟨hb3,A5,l5,k5,er,rfl,hls,hiff⟩:=ng3 hp3
    have H3:=hd_ (ai_ hb3 (ai_ (hls.on (S':=fun g=>w.heap.size+1≤g∧g<w3.heap.size) (lr_ _) (fun _ _ _=>rfl) (fun g (hg:W2.heap.size≤g) hl=>⟨by have:=HB2.out.size;have:=HA.out.2.2.1;omega,hl⟩)) hiff))
    obtain⟨y0,y1,y2,_⟩:=HM1.out w3 hb3
    have HC:=hd_ (HTM1.out w3 hb3)
    clear hp3 hb3 hls hiff HTM1
    go_wp2_with fail
    clear y0 y1 y2
    refine HC.out.mono ?_
    rintro e w4 ⟨rfl,hb4'⟩
    have hbz:=below_then H3.out.1 hb4' (lr_ _)
    have H4:=hd_ (ai_ hb4' hbz)
    obtain⟨y0,y1,y2,_⟩:=HM2.out w4 hbz
    have HC:=hd_ (HTM2.out w4 hbz)
    clear hb4' hbz HTM2
    go_wp2_with fail
    clear y0 y1 y2
    refine HC.out.mono ?_
    rintro e w5 ⟨rfl,hb5⟩
    have hbz:=below_then H4.out.2 hb5 (lr_ _)
    have H5:=hd_ (ai_ hb5 hbz)
    obtain⟨y0,y1,y2,_⟩:=HN1.out w5 hbz
    obtain⟨x0,x1,x2⟩:=HV.out w5 hbz
    have HC:=hd_ (HHN.out w5 hbz)
    clear hb5 hbz HHN
    go_wp2_with fail
    clear y0 y1 y2 x0 x1 x2
    refine HC.out.mono ?_
    rintro e w6 ⟨rfl,hb6⟩
    have hbz:=below_then H5.out.2 hb6 (lr_ _)
    have H6:=hd_ (ai_ hbz (below_then HB2.out hbz (lr_ _)))
    have hB6:=hd_ (below_then HB2.out hbz (lr_ _))
    have hls6:=H3.out.2.1.below (below_then H4.out.1 (below_then H5.out.1 hb6 (lr_ _)) (lr_ _))
    have hs36:w3.heap.size≤w6.heap.size:=(below_then H4.out.1 (below_then H5.out.1 hb6 (lr_ _)) (lr_ _)).size
    have HLS:=hd_ (ai_ hls6 hs36)
    clear hb6 hbz HC hls6 hs36
    by_cases her:er=0
    ·obtain⟨iss,hiss⟩: ∃l,R0=some l:=Option.ne_none_iff_exists'.1 (H3.out.2.2.1 her)
     subst her hiss
     cases kt1 with
     |false=>
      have HRR:=hd_ (HNO.out fun c hr hp h=>by
       have:=timeK_back (rightL_parts hr).2.1
       rw[←(node_parts h).2.1,HVV.out.2.2.2.1] at this
       cases this)
      have q:=(hB6.out.block w.heap.size (by have:=HA.out.2.2.1;omega)).trans HA.out.2.1
      obtain⟨f0,f1,f2,f3,f4⟩:=fz5 q
      obtain⟨s0,s1,s2,s3,s4⟩:=box5 q
      have HRS:=hd_ (box5 (set5_box q (.slice none 0 0) (.int .i64 0) (.int .i64 0) (.slice none 0 0) (.int .i64 0)))
      have HE:=hd_ (below_then HA.out.1 hB6.out (lr_ _))
      clear q
      go_wp2_with fail
      obtain⟨r0,r1,r2,r3,r4⟩:=HRS.out
      unfold set5 at r0 r1 r2 r3 r4
      refine bodyPost_ret (v:=.tuple #[.agg #[.slice none 0 0,.int .i64 0,.int .i64 0,.slice none 0 0,.int .i64 0],.int .i64 121]) ?_ rfl (by rw[←HRR.out];exact⟨set5_below (lr_ _) HE.out _ _ _ _ _,rfl⟩)
      simp[results,Tryz.results11,go_sem,r0,r1,r2,r3,r4]
     |true=>
      cases kt2 with
      |false=>
       have HRR:=hd_ (HNO.out fun c hr hp h=>by
        have:=timeK_back (rightL_parts hr).2.2.1
        rw[←(node_parts h).2.2.1,HVV.out.2.2.2.2.1] at this
        cases this)
       have q:=(hB6.out.block w.heap.size (by have:=HA.out.2.2.1;omega)).trans HA.out.2.1
       obtain⟨f0,f1,f2,f3,f4⟩:=fz5 q
       obtain⟨s0,s1,s2,s3,s4⟩:=box5 q
       have HRS:=hd_ (box5 (set5_box q (.slice none 0 0) (.int .i64 0) (.int .i64 0) (.slice none 0 0) (.int .i64 0)))
       have HE:=hd_ (below_then HA.out.1 hB6.out (lr_ _))
       clear q
       go_wp2_with fail
       obtain⟨r0,r1,r2,r3,r4⟩:=HRS.out
       unfold set5 at r0 r1 r2 r3 r4
       refine bodyPost_ret (v:=.tuple #[.agg #[.slice none 0 0,.int .i64 0,.int .i64 0,.slice none 0 0,.int .i64 0],.int .i64 121]) ?_ rfl (by rw[←HRR.out];exact⟨set5_below (lr_ _) HE.out _ _ _ _ _,rfl⟩)
       simp[results,Tryz.results11,go_sem,r0,r1,r2,r3,r4]
      |true=>
       cases kh with
       |false=>
        have HRR:=hd_ (HNO.out fun c hr hp h=>by
         have q:=(node_parts h).2.2.2.2
         have:=HVV.out.2.2.2.2.2.1
         rw[q,hK_back,show(hNd c.sig).body=hbF c.sig from rfl,num_hb (rightL_parts hr).2.2.2.2] at this
         cases this)
        have q:=(hB6.out.block w.heap.size (by have:=HA.out.2.2.1;omega)).trans HA.out.2.1
        obtain⟨f0,f1,f2,f3,f4⟩:=fz5 q
        obtain⟨s0,s1,s2,s3,s4⟩:=box5 q
        have HRS:=hd_ (box5 (set5_box q (.slice none 0 0) (.int .i64 0) (.int .i64 0) (.slice none 0 0) (.int .i64 0)))
        have HE:=hd_ (below_then HA.out.1 hB6.out (lr_ _))
        clear q
        go_wp2_with fail
        obtain⟨r0,r1,r2,r3,r4⟩:=HRS.out
        unfold set5 at r0 r1 r2 r3 r4
        refine bodyPost_ret (v:=.tuple #[.agg #[.slice none 0 0,.int .i64 0,.int .i64 0,.slice none 0 0,.int .i64 0],.int .i64 121]) ?_ rfl (by rw[←HRR.out];exact⟨set5_below (lr_ _) HE.out _ _ _ _ _,rfl⟩)
        simp[results,Tryz.results11,go_sem,r0,r1,r2,r3,r4]
       |true=>
        clear H4 H5 HC
        obtain⟨WB,hWB⟩:=nm_ (w6.alloc (.cells #[.slice A5 l5 k5,.int .i64 vt1,.int .i64 vt2,.slice none 0 0,.int .i64 sg] 26))
        have hbn:Below w6.heap.size w6 WB:=by rw[←hWB];exact below_new _ _
        have pB:WB.heap[w6.heap.size]? =some (.cells #[.slice A5 l5 k5,.int .i64 vt1,.int .i64 vt2,.slice none 0 0,.int .i64 sg] 26):=by rw[←hWB];exact heap_new_ _ _
        have hzB:w6.heap.size<WB.heap.size:=by rw[←hWB];simp
        obtain⟨b6,hb6⟩:=nm_ w6.heap.size
        rw[hb6] at pB hzB
        have hbl:w6.heap.size≤b6:=by rw[hb6];exact lr_ _
        have HTB:=hd_ (ai_ (TW.mk (wz:=w6) hbn hbl pB) hzB)
        have hbWB:=below_then H6.out.1 hbn (lr_ _)
        obtain⟨td',bd',ks⟩:=m3
        obtain⟨_,_,_,K',ck,eK,hM1,hM2,hM3⟩:=NdC.kidsL (HM3.out w6 H6.out.1).2
        obtain⟨eK1,eK5,eK3⟩:Kd=K'∧kd=ks.length∧ud=ck:=by simp only[Value.slice.injEq] at eK;exact eK
        subst eK1 eK3
        have hw9:ud≤9223372036854775807:=by unfold maxLen at hM2;omega
        have hM3':=hM3.on (S':=fun g=>g<w6.heap.size) (w':=w6) (lr_ _) (fun _ _ _=>rfl) (fun g _ hl=>hl)
        have HKD:=hd_ (ai_ eK5 (ai_ hM3' hM1))
        have HY3:=hd_ (fun(X:World) (hX:Below w6.heap.size w6 X)=>(show X.cell? ⟨g2,o2+11,none⟩=some (.slice Kd kd ud) from cell_on hX (HM3.out w6 H6.out.1).1))
        have hkd8:kd≤65535:=by
         rw[eK5]
         exact HSM.out
        have HK8:=hd_ hkd8
        clear hbn pB hzB hbWB eK hM1 hM2 hM3 hM3' eK5 hbl HM1 HM2 HM3 hkd8
        go_wp2_with fail
        go_loopg [17] (kd+1) (fun gk s17 wx=>∃(i:Nat) (Av:Option Addr) (cv:Nat),s17=.int .i64 i∧i≤kd∧kd - i<gk∧Hid (TW w6 b6 (.slice A5 l5 k5) (.int .i64 vt1) (.int .i64 vt2) (.slice Av i cv) (.int .i64 sg) wx∧SR WB b6 (.slice Av i cv) i ((ks.take i).map (fun k=>(intF k.body).1)) wx∧WB.heap.size≤wx.heap.size))
        case atStart=>exact⟨0,none,0,rfl,by omega,by omega,hd_ ⟨HTB.out.1,⟨Below.refl _ _,HTB.out.2,World.ownsRow_nil _ _ _ _,fun _ h=>by simp at h⟩,lr_ _⟩⟩
        case round=>
         obtain⟨i,Av,cv,rfl,hi,hgk,HQ⟩:=hrel
         have y3:=HY3.out wr HQ.out.1.bel
         by_cases hlt:i<kd
         ·have hltz:(i:Int)< (kd:Int):=by omega
          obtain⟨gk',rfl⟩: ∃g',gk=g'+1:=⟨gk - 1,by omega⟩
          have HM:=hd_ (ai_ (show i+1≤kd from hlt) (show kd - (i+1)<gk' by omega))
          have hix:i<ks.length:=by have:=HKD.out.1;omega
          have hLr:Lst ndE (fun g=>g<w6.heap.size) wr Kd ks:=HKD.out.2.1.on HQ.out.1.bel.size (fun g hg _=>HQ.out.1.bel.block g hg) (fun g hg _=>hg)
          obtain⟨g,off,t9,A9,l9,k9,K9,m9,n9,rfl,e0,e1,e2,hn9⟩:=nd_cells hLr (br_ _ wr) i hix
          have hmk:=HKD.out.2.2
          have HC:=hd_ (rintOf_any _ ks[i] _ _ _ wr hn9)
          have hfit:=(body_size hn9).2.2.1.fit
          have htake:ks.take (i+1)=ks.take i++[ks[i]]:=by rw[List.take_add_one,List.getElem?_eq_getElem hix];rfl
          have hy64:I64 (intF ks[i].body).1:=by
           have:=take_i64 hfit
           unfold intF
           split
           ·exact this
           ·show I64 0;unfold I64;decide
          have hmap:(ks.take (i+1)).map (fun k=>(intF k.body).1)=(ks.take i).map (fun k=>(intF k.body).1)++[(intF ks[i].body).1]:=by rw[htake,List.map_append];rfl
          obtain⟨y,hy⟩:=nm_ (intF ks[i].body).1
          obtain⟨ok,hok⟩:=nm_ (intOK ks[i])
          rw[hy,hok] at HC
          rw[hy] at hy64 hmap
          have HOK:=hd_ (ai_ hok (List.getElem_mem hix))
          have HYQ:=hd_ (ai_ hy64 hmap)
          clear hLr hn9 htake hy64 hmap hy hok hfit
          go_wp2_with fail
          clear e0 e1 e2 y3
          refine HC.out.mono ?_
          rintro e w9 ⟨rfl,hb9⟩
          cases ok with
          |false=>
           have HRR:=hd_ (HNO.out fun c hr hp h=>by
            have q:=(node_parts h).2.2.2.1
            have q2:ks=c.sers.map numN:=by have:=congrArg Nd.kids q;exact this
            have q3:=HOK.out.2
            have q4:=HOK.out.1
            obtain⟨v,hv,hve⟩:=List.mem_map.1 (by rw[←q2];exact q3)
            rw[←hve,intOK_back (List.all_eq_true.1 (by have h4:=(rightL_parts hr).2.2.2.1;unfold sersB at h4;simp only[Bool.and_eq_true] at h4;exact h4.2.1) v hv)] at q4
            cases q4)
           have hB9:=hd_ (below_then H6.out.2 (below_then HQ.out.1.bel hb9 (lr_ _)) (lr_ _))
           clear hb9 HC HQ
           have q:=(hB9.out.block w.heap.size (by have:=HA.out.2.2.1;omega)).trans HA.out.2.1
           obtain⟨f0,f1,f2,f3,f4⟩:=fz5 q
           obtain⟨s0,s1,s2,s3,s4⟩:=box5 q
           have HRS:=hd_ (box5 (set5_box q (.slice none 0 0) (.int .i64 0) (.int .i64 0) (.slice none 0 0) (.int .i64 0)))
           have HE:=hd_ (below_then HA.out.1 hB9.out (lr_ _))
           clear q
           go_wp2_with fail
           obtain⟨r0,r1,r2,r3,r4⟩:=HRS.out
           unfold set5 at r0 r1 r2 r3 r4
           refine bodyPost_ret (v:=.tuple #[.agg #[.slice none 0 0,.int .i64 0,.int .i64 0,.slice none 0 0,.int .i64 0],.int .i64 121]) ?_ rfl (by rw[←HRR.out];exact⟨set5_below (lr_ _) HE.out _ _ _ _ _,rfl⟩)
           simp[results,Tryz.results11,go_sem,r0,r1,r2,r3,r4]
          |true=>
           obtain⟨A',c',W3,hrun,hSR,hsz,hk3⟩:=HQ.out.2.1.pushW HQ.out.2.2 hb9 HYQ.out.1 (by have:=HK8.out;omega)
           have e3:=(box5 (HQ.out.1.call hb9).box).2.2.2.1
           have hT3:TW w6 b6 (.slice A5 l5 k5) (.int .i64 vt1) (.int .i64 vt2) (.slice Av i cv) (.int .i64 sg) W3:=⟨HTB.out.1.bel.trans (hSR.bel.mono HTB.out.1.low),HTB.out.1.low,(hk3 b6 HTB.out.2).trans HQ.out.1.box⟩
           have f3:=(fz5 hT3.box).2.2.2.1
           have g3:=(box5 hT3.box).2.2.2.1
           rw[←HYQ.out.2] at hSR
           have HS:=hd_ (ai_ (hT3.s3 (.slice A' (i+1) c')) (ai_ (hSR.s3 (.slice A' (i+1) c')) (show WB.heap.size≤(W3.setCell ⟨b6,3,none⟩ (.slice A' (i+1) c')).heap.size by rw[set_size];exact hsz)))
           clear hb9 hSR hsz hk3 hT3 HC HQ
           go_wp2_with (at_builtin;refine wpl_append rfl (.tmp 123) (.tmp 125) 24 rfl _ _ _ rfl rfl hrun ?_)
           clear hrun e3
           go_wp2
           go_roundg gk'
           case measure=>omega
           case rel=>exact⟨i+1,A',c',by go_num,HM.out.1,HM.out.2,HS⟩
         ·obtain rfl:kd=i:=by omega
          have hltz: ¬(kd:Int)< (kd:Int):=by omega
          have hQ:=HQ.out
          rw[List.take_of_length_le (by have:=HKD.out.1;omega)] at hQ
          have hzr:=hQ.1.bel.size
          have hT:=hQ.1
          have hbr:=below_then H6.out.2 hT.bel (lr_ _)
          obtain⟨x0,x1,x2,x3,x4⟩:=box5 hT.box
          have hins:=Ins.own hQ.2.1.own hQ.2.1.fit
          have hser:InC (fun g=>w6.heap.size≤g) wr (ks.map (fun k=>(intF k.body).1)) (.slice Av kd cv):=by
           rcases hQ.2.1.own.2 with ⟨e5,h0⟩ | ⟨g5,cap,cur,e5,hbg,hg5,hc1,hc2,_⟩
           ·obtain⟨rfl,rfl⟩:Av=none∧cv=0:=by simp only[Value.slice.injEq] at e5;exact⟨e5.1,e5.2.2⟩
            exact⟨none,kd,0,rfl,by omega,Nat.zero_le _,hins,fun hp=>by omega⟩
           ·obtain⟨rfl,rfl⟩:Av=some ⟨g5,0,none⟩∧cv=cap:=by simp only[Value.slice.injEq,true_and] at e5;exact e5
            exact⟨_,kd,cv,rfl,hc1,hc2,hins,fun _ g off sp e=>by cases e;have:=HTB.out.2;have:=HTB.out.1.low;omega⟩
          have hcr:CrC (fun g=>w.heap.size+1≤g) wr ⟨iss,vt1,vt2,ks.map (fun k=>(intF k.body).1),sg⟩ (.slice A5 l5 k5) (.int .i64 vt1) (.int .i64 vt2) (.slice Av kd cv) (.int .i64 sg):=by
           refine⟨(HLS.out.1.below hT.bel).on (lr_ _) (fun _ _ _=>rfl) (fun g hg _=>hg.1),⟨rfl,HVV.out.2.2.2.2.2.2.1⟩,⟨rfl,HVV.out.2.2.2.2.2.2.2.1⟩,hser.on (lr_ _) (fun _ _ _=>rfl) (fun g (hg:w6.heap.size≤g) _=>?_),⟨rfl,HVV.out.2.2.2.2.2.2.2.2⟩⟩
           have:=H6.out.2.size
           have:=HA.out.2.2.1
           omega
          have HCR:=hd_ hcr
          have hpu:=rputL_any _ _ _ _ _ _ _ wr hcr (HA.out.2.2.2.1.below hbr)
          obtain⟨tl,htl⟩:=nm_ (⟨iss,vt1,vt2,ks.map (fun k=>(intF k.body).1),sg⟩:Cr)
          rw[htl] at hpu
          obtain⟨PW,hPW⟩:=nm_ (putL tl)
          rw[hPW] at hpu
          have HC:=hd_ hpu
          have HPW:=hd_ (ai_ hPW htl)
          have HBR:=hd_ (ai_ hbr (ai_ hT.box (ai_ hT.low hzr)))
          clear hQ hT hbr hins hser hcr hpu hPW htl hzr HQ hgk hi
          go_wp2_with fail
          clear x0 x1 x2 x3 x4 y3
          refine HC.out.mono ?_
          rintro e wp hpost
          cases PW with
          |no er=>
           obtain⟨hbp,Ap,cp,rfl⟩:=hpost
           have hne:er≠0:=putL_ne HPW.out.1
           have HRR:=hd_ (HNO.out fun c hr hp h=>by
            have q0:=HTE.out c hr h
            rw[HQ0.out,HVV.out.1,HVV.out.2.1,HVV.out.2.2.1] at q0
            have q:tl=c:=HPW.out.2.symm.trans q0
            have q2:=HPW.out.1
            rw[q,hp] at q2
            cases q2)
           have hBp:=hd_ (below_then HBR.out.1 hbp (lr_ _))
           clear hbp HC
           have q:=(hBp.out.block w.heap.size (by have:=HA.out.2.2.1;omega)).trans HA.out.2.1
           obtain⟨f0,f1,f2,f3,f4⟩:=fz5 q
           obtain⟨s0,s1,s2,s3,s4⟩:=box5 q
           have HRS:=hd_ (box5 (set5_box q (.slice none 0 0) (.int .i64 0) (.int .i64 0) (.slice none 0 0) (.int .i64 0)))
           have HE:=hd_ (below_then HA.out.1 hBp.out (lr_ _))
           clear q
           go_wp2_with fail
           obtain⟨r0,r1,r2,r3,r4⟩:=HRS.out
           unfold set5 at r0 r1 r2 r3 r4
           refine bodyPost_ret (v:=.tuple #[.agg #[.slice none 0 0,.int .i64 0,.int .i64 0,.slice none 0 0,.int .i64 0],.int .i64 121]) ?_ rfl (by rw[←HRR.out];exact⟨set5_below (lr_ _) HE.out _ _ _ _ _,rfl⟩)
           simp[results,Tryz.results11,go_sem,r0,r1,r2,r3,r4]
          |ok b=>
           obtain⟨hbp,Ap,cp,rfl,g1,⟨g2',g3'⟩,_⟩:=hpost
           have hBp:=hd_ (below_then HBR.out.1 hbp (lr_ _))
           have k1:=intc.str_now g1 cp
           have k2:=intc.str_now (HA.out.2.2.2.2.below hBp.out) k
           have hxl:xs.length=n:=HA.out.2.2.2.2.1
           have hfb:=g1.fit
           have hfx:=HA.out.2.2.2.2.fit
           have HPB:=hd_ ((hbp.block _ (Array.getElem?_eq_some_iff.1 HBR.out.2.1).1).trans HBR.out.2.1)
           have HCP:=hd_ (HCR.out.below hbp)
           obtain⟨lb,hlb⟩:=nm_ b.length
           rw[hlb] at k1⊢
           by_cases hbx:b=xs
           ·subst hbx
            have HRR:=hd_ (show((0:Int),some tl)=RES by rw[←HR.out.2];exact(resL_back HPW.out.1).symm)
            have q:=(hBp.out.block w.heap.size (by have:=HA.out.2.2.1;omega)).trans HA.out.2.1
            obtain⟨f0,f1,f2,f3,f4⟩:=fz5 q
            obtain⟨s0',s1',s2',s3',s4'⟩:=box5 q
            obtain⟨y0,y1,y2,y3,y4⟩:=box5 HPB.out
            have HRS:=hd_ (box5 (set5_box q (.slice A5 l5 k5) (.int .i64 vt1) (.int .i64 vt2) (.slice Av kd cv) (.int .i64 sg)))
            have hfin:CrC (fun g=>w.heap.size≤g) (set5 wp w.heap.size (.slice A5 l5 k5) (.int .i64 vt1) (.int .i64 vt2) (.slice Av kd cv) (.int .i64 sg)) tl (.slice A5 l5 k5) (.int .i64 vt1) (.int .i64 vt2) (.slice Av kd cv) (.int .i64 sg):=by
             rw[←HPW.out.2]
             exact HCP.out.on (by rw[set5_size];exact lr_ _) (fun g (hg:w.heap.size+1≤g) _=>set5_other (by omega) _ _ _ _ _) (fun g (hg:w.heap.size+1≤g) _=>by omega)
            have HF:=hd_ hfin
            clear hfin q hbp g1 g2' g3' HC hfb hfx hxl hlb
            go_wp2_with fail
            obtain⟨r0,r1,r2,r3,r4⟩:=HRS.out
            unfold set5 at r0 r1 r2 r3 r4
            refine bodyPost_ret (v:=.tuple #[.agg #[.slice A5 l5 k5,.int .i64 vt1,.int .i64 vt2,.slice Av kd cv,.int .i64 sg],.int .i64 0]) ?_ rfl (by rw[←HRR.out];exact⟨set5_below (lr_ _) (below_then HA.out.1 hBp.out (lr_ _)) _ _ _ _ _,_,_,_,_,_,rfl,HF.out⟩)
            simp[results,Tryz.results11,go_sem,r0,r1,r2,r3,r4]
           ·have HRR:=hd_ (HNO.out fun c hr hp h=>by
             have q0:=HTE.out c hr h
             rw[HQ0.out,HVV.out.1,HVV.out.2.1,HVV.out.2.2.1] at q0
             have q:tl=c:=HPW.out.2.symm.trans q0
             have q2:=HPW.out.1
             rw[q,hp] at q2
             cases q2
             exact hbx rfl)
            have hst2:((strOfNums b).toList==(strOfNums xs).toList)=false:=intc.sameB_no hfb hfx hbx
            obtain⟨S1,hS1⟩:=nm_ (strOfNums b)
            obtain⟨S2,hS2⟩:=nm_ (strOfNums xs)
            rw[hS1] at k1 hst2
            rw[hS2] at k2 hst2
            have hst: ¬S1.toList=S2.toList:=by simpa using hst2
            have hst3:(S1.toList !=S2.toList)=true:=by simpa using hst
            clear hbx hS1 hS2 hbp g1 g2' g3' HC hfb hfx hxl hlb
            have q:=(hBp.out.block w.heap.size (by have:=HA.out.2.2.1;omega)).trans HA.out.2.1
            obtain⟨f0,f1,f2,f3,f4⟩:=fz5 q
            obtain⟨s0,s1,s2,s3,s4⟩:=box5 q
            have HRS:=hd_ (box5 (set5_box q (.slice none 0 0) (.int .i64 0) (.int .i64 0) (.slice none 0 0) (.int .i64 0)))
            have HE:=hd_ (below_then HA.out.1 hBp.out (lr_ _))
            clear q
            go_wp2_with fail
            obtain⟨r0,r1,r2,r3,r4⟩:=HRS.out
            unfold set5 at r0 r1 r2 r3 r4
            refine bodyPost_ret (v:=.tuple #[.agg #[.slice none 0 0,.int .i64 0,.int .i64 0,.slice none 0 0,.int .i64 0],.int .i64 121]) ?_ rfl (by rw[←HRR.out];exact⟨set5_below (lr_ _) HE.out _ _ _ _ _,rfl⟩)
            simp[results,Tryz.results11,go_sem,r0,r1,r2,r3,r4]
    ·have HRR:=hd_ (HNO.out fun c hr hp h=>by
      have:getN m0=some c.iss:=by rw[(node_parts h).1];exact getN_name (rightL_parts hr).1
      rw[HQ0.out] at this
      exact her (H3.out.2.2.2 (by rw[this];exact fun h=>by cases h)))
     have q:=(hB6.out.block w.heap.size (by have:=HA.out.2.2.1;omega)).trans HA.out.2.1
     obtain⟨f0,f1,f2,f3,f4⟩:=fz5 q
     obtain⟨s0,s1,s2,s3,s4⟩:=box5 q
     have HRS:=hd_ (box5 (set5_box q (.slice none 0 0) (.int .i64 0) (.int .i64 0) (.slice none 0 0) (.int .i64 0)))
     have HE:=hd_ (below_then HA.out.1 hB6.out (lr_ _))
     clear q
     go_wp2_with fail
     obtain⟨r0,r1,r2,r3,r4⟩:=HRS.out
     unfold set5 at r0 r1 r2 r3 r4
     refine bodyPost_ret (v:=.tuple #[.agg #[.slice none 0 0,.int .i64 0,.int .i64 0,.slice none 0 0,.int .i64 0],.int .i64 121]) ?_ rfl (by rw[←HRR.out];exact⟨set5_below (lr_ _) HE.out _ _ _ _ _,rfl⟩)
     simp[results,Tryz.results11,go_sem,r0,r1,r2,r3,r4]
   ·have HRR:=hd_ (HNO.out fun c hr hp h=>by
     have:Nd.kids (kidF (.mk tt bb [.mk s0 b0 ms,n1]) 0)=Nd.kids (kidF (nodeL c) 0):=by rw[h]
     have q:ms=(bodyL c).kids:=this
     have z:=HK4.out
     rw[q] at z
     exact h4 z)
    have hz: ¬(k2:Int)=4:=by omega
    have hz2:((k2:Int) !=4)=true:=by simpa using hz
    have hz3:(k2 !=4)=true:=by simpa using h4
    have q:=(HB2.out.block w.heap.size (by have:=HA.out.2.2.1;omega)).trans HA.out.2.1
    obtain⟨f0,f1,f2,f3,f4⟩:=fz5 q
    obtain⟨s0,s1,s2,s3,s4⟩:=box5 q
    have HRS:=hd_ (box5 (set5_box q (.slice none 0 0) (.int .i64 0) (.int .i64 0) (.slice none 0 0) (.int .i64 0)))
    have HE:=hd_ (below_then HA.out.1 HB2.out (lr_ _))
    clear q
    go_wp2_with fail
    obtain⟨r0,r1,r2,r3,r4⟩:=HRS.out
    unfold set5 at r0 r1 r2 r3 r4
    refine bodyPost_ret (v:=.tuple #[.agg #[.slice none 0 0,.int .i64 0,.int .i64 0,.slice none 0 0,.int .i64 0],.int .i64 121]) ?_ rfl (by rw[←HRR.out];exact⟨set5_below (lr_ _) HE.out _ _ _ _ _,rfl⟩)
    simp[results,Tryz.results11,go_sem,r0,r1,r2,r3,r4]
  ·have HRR:=hd_ (HNO.out fun c hr hp h=>by
    have:Nd.kids (.mk tt bb kk)=Nd.kids (nodeL c):=by rw[h]
    have q:kk=[bodyL c,hNd c.sig]:=this
    have z:=HK2.out
    rw[q] at z
    exact h2 z)
   have hz: ¬(k1:Int)=2:=by omega
   have hz2:((k1:Int) !=2)=true:=by simpa using hz
   have hz3:(k1 !=2)=true:=by simpa using h2
   have q:=(HB2.out.block w.heap.size (by have:=HA.out.2.2.1;omega)).trans HA.out.2.1
   obtain⟨f0,f1,f2,f3,f4⟩:=fz5 q
   obtain⟨s0,s1,s2,s3,s4⟩:=box5 q
   have HRS:=hd_ (box5 (set5_box q (.slice none 0 0) (.int .i64 0) (.int .i64 0) (.slice none 0 0) (.int .i64 0)))
   have HE:=hd_ (below_then HA.out.1 HB2.out (lr_ _))
   clear q
   go_wp2_with fail
   obtain⟨r0,r1,r2,r3,r4⟩:=HRS.out
   unfold set5 at r0 r1 r2 r3 r4
   refine bodyPost_ret (v:=.tuple #[.agg #[.slice none 0 0,.int .i64 0,.int .i64 0,.slice none 0 0,.int .i64 0],.int .i64 121]) ?_ rfl (by rw[←HRR.out];exact⟨set5_below (lr_ _) HE.out _ _ _ _ _,rfl⟩)
   simp[results,Tryz.results11,go_sem,r0,r1,r2,r3,r4]
end Go.Proofs.YtconbejjagcnkaaGreatDoor.nmc
set_option maxRecDepth 100000
set_option maxHeartbeats 16000000
set_option linter.unusedVariables false
set_option linter.unusedSimpArgs false
namespace Go.Proofs.YtconbejjagcnkaaGreatDoor.nmc
open Go.RowKit tlvc tlvd ndc txc txm intc intm vtc
def cr0:Cr:=⟨[],0,0,[],0⟩
theorem rgetL_cells {w w':World}{r:Int × Option Cr}{e:Ending}(h:RGetL w r e w'):Below w.heap.size w w'∧∃c0 c1 c2 c3 c4,e=.returned (.tuple #[.agg #[c0,c1,c2,c3,c4],.int .i64 r.1])∧CrC (fun g=>w.heap.size≤g) w' (r.2.getD cr0) c0 c1 c2 c3 c4:=by
 obtain⟨hb,h⟩:=h
 obtain⟨r1,r2⟩:=r
 cases r2 with
 |none=>
  obtain rfl:=h
  have z:I64 0:=by unfold I64;decide
  exact⟨hb,_,_,_,_,_,rfl,⟨LsC.nil,⟨rfl,z⟩,⟨rfl,z⟩,⟨none,0,0,rfl,lr_ _,Nat.zero_le _,Ins.nil_ _ _,fun h=>absurd h (by omega)⟩,⟨rfl,z⟩⟩⟩
 |some c=>obtain⟨c0,c1,c2,c3,c4,rfl,hc⟩:=h;exact⟨hb,c0,c1,c2,c3,c4,rfl,hc⟩
theorem rlistsL_any (B:Nat→Prop)(c:Cr)(c0 c1 c2 c3 c4:Value)(s n:Int)(w:World)(hx:CrC B w c c0 c1 c2 c3 c4):
 Calls Tryz.prog 14 #[.agg #[c0,c1,c2,c3,c4],.int .i64 s,.int .i64 n] w fun e w'=>e=.returned (.bool (listsB c s n))∧Below w.heap.size w w':=by
 obtain⟨W0,hW0⟩:=nm_ (w.alloc (.cells #[c0,c1,c2,c3,c4] 26))
 have hb0:Below w.heap.size w W0:=by rw[←hW0];exact below_new _ _
 have p0:W0.heap[w.heap.size]? =some (.cells #[c0,c1,c2,c3,c4] 26):=by rw[←hW0];exact heap_new_ _ _
 obtain⟨A0,l0,k0,a1,a2,A3,l3,k3,a4,rfl,rfl,rfl,rfl,rfl⟩:=hx.shape
 obtain⟨_,e1,e2,e3,_⟩:=box5 p0
 have h1:a1=c.ths:=by have:=hx.ths.1;simpa using this
 have h2:a2=c.nxt:=by have:=hx.nxt.1;simpa using this
 obtain⟨i1,i2,i3,_⟩:=inC_ins (hx.below hb0).sers
 have h9:k3≤9223372036854775807:=by unfold maxLen at i2;omega
 have hl:listsB c s n=(decide (a1≤n) && (decide (n≤a2) && inL c.sers s)):=by unfold listsB;rw[h1,h2]
 obtain⟨R,hR⟩:=nm_ (inL c.sers s)
 rw[hR] at hl
 obtain⟨RR,hRR⟩:=nm_ (listsB c s n)
 rw[hRR] at hl⊢
 have HR:=hd_ (show inL (c.sers.drop 0) s=R by rw[List.drop_zero];exact hR)
 have HL:=hd_ hl
 have HX:=hd_ (ai_ i3 i3.len)
 have HB:=hd_ hb0
 clear hb0 p0 hx i2 i3 h1 h2 hR hl hRR
 by_cases q1:a1≤n
 ·by_cases q2:n≤a2
  ·have HRR:=hd_ (show R=RR by rw[HL.out,decide_eq_true q1,decide_eq_true q2,Bool.true_and,Bool.true_and])
   go_enter Tryz.func14,Tryz.ntmps14
   go_wp2_with fail
   go_loopg [7] (l3+1) (fun gk s7 wx=>∃(i:Nat),s7=.int .i64 i∧i≤l3∧l3 - i<gk∧wx=W0∧Hid (inL (c.sers.drop i) s=R))
   case atStart=>exact⟨0,rfl,by omega,by omega,rfl,HR⟩
   case round=>
    obtain⟨i,rfl,hi,hgk,rfl,HI⟩:=hrel
    clear HR
    by_cases hlt:i<l3
    ·have hltz:(i:Int)< (l3:Int):=by omega
     obtain⟨gk',rfl⟩: ∃g',gk=g'+1:=⟨gk - 1,by omega⟩
     have HN:=hd_ (ai_ (show i+1≤l3 from hlt) (show l3 - (i+1)<gk' by omega))
     obtain⟨b,off,rfl,hb,hcell⟩:=HX.out.1.2.2 (by omega)
     have e0:=hcell i hlt
     have hix:i<c.sers.length:=by rw[HX.out.2];exact hlt
     obtain⟨y,hy⟩:=nm_ (c.sers.getD i 0)
     rw[hy] at e0
     clear hcell hb
     by_cases hys:y=s
     ·have HT:=hd_ (show true=RR by rw[←HRR.out,←HI.out,inL_hit hix (by rw[hy];exact hys.symm)])
      subst hys
      clear hy HI
      go_wp2
      go_ret
      exact⟨by rw[←HT.out];rfl,HB.out⟩
     ·have HT:=hd_ (show inL (c.sers.drop (i+1)) s=R by rw[←HI.out,inL_miss hix (by rw[hy];exact fun h=>hys h.symm)])
      clear hy HI
      go_wp2
      go_roundg gk'
      case measure=>omega
      case rel=>exact⟨i+1,by go_num,HN.out.1,HN.out.2,rfl,HT⟩
    ·obtain rfl:l3=i:=by omega
     have hltz: ¬(l3:Int)< (l3:Int):=by omega
     have HT:=hd_ (show false=RR by rw[←HRR.out,←HI.out,List.drop_eq_nil_of_le (by rw[HX.out.2];exact lr_ _)];rfl)
     clear HI
     go_wp2
     go_ret
     exact⟨by rw[←HT.out];rfl,HB.out⟩
  ·have HRR:=hd_ (show false=RR by rw[HL.out,decide_eq_false q2,Bool.false_and,Bool.and_false])
   clear HR HX HL
   go_enter Tryz.func14,Tryz.ntmps14
   go_wp2_with fail
   go_loopg [7] 1 (fun gk s7 wx=>s7=.int .i64 0∧wx=W0)
   case atStart=>exact⟨rfl,rfl⟩
   case round=>
    obtain⟨rfl,rfl⟩:=hrel
    by_cases h0:0<l3
    ·have hz:(0:Int)< (l3:Int):=by omega
     go_wp2
     go_ret
     exact⟨by rw[←HRR.out];first |rfl |simp,HB.out⟩
    ·have hz: ¬(0:Int)< (l3:Int):=by omega
     go_wp2
     go_ret
     exact⟨by rw[←HRR.out];first |rfl |simp,HB.out⟩
 ·have HRR:=hd_ (show false=RR by rw[HL.out,decide_eq_false q1,Bool.false_and])
  clear HR HX HL
  go_enter Tryz.func14,Tryz.ntmps14
  go_wp2_with fail
  go_loopg [7] 1 (fun gk s7 wx=>s7=.int .i64 0∧wx=W0)
  case atStart=>exact⟨rfl,rfl⟩
  case round=>
   obtain⟨rfl,rfl⟩:=hrel
   by_cases h0:0<l3
   ·have hz:(0:Int)< (l3:Int):=by omega
    go_wp2
    go_ret
    exact⟨by rw[←HRR.out];first |rfl |simp,HB.out⟩
   ·have hz: ¬(0:Int)< (l3:Int):=by omega
    go_wp2
    go_ret
    exact⟨by rw[←HRR.out];first |rfl |simp,HB.out⟩
end Go.Proofs.YtconbejjagcnkaaGreatDoor.nmc
set_option linter.unusedVariables false
namespace Go.Proofs.YtconbejjagcnkaaGreatDoor.txc
open Go.ChangeShapes Go.WideShapes Go.ChangeAt Go.RowKit
def acceptCells:Array Value:=#[.int .u8 128,.int .u8 191,.int .u8 160,.int .u8 191,.int .u8 128,.int .u8 159,.int .u8 144,.int .u8 191,.int .u8 128,.int .u8 143,.int .u8 0,.int .u8 0,.int .u8 0,.int .u8 0,.int .u8 0,.int .u8 0,.int .u8 0,.int .u8 0,.int .u8 0,.int .u8 0,.int .u8 0,.int .u8 0,.int .u8 0,.int .u8 0,.int .u8 0,.int .u8 0,.int .u8 0,.int .u8 0,.int .u8 0,.int .u8 0,.int .u8 0,.int .u8 0]
def putFirst:Obj→Obj
  | .cells _ t frozen=>.cells firstCells t frozen
  |o=>o
def putAccept:Obj→Obj
  | .cells _ t frozen=>.cells acceptCells t frozen
  |o=>o
noncomputable def laidWorld (os:Os):World:=
  {World.holding Tryz.prog os ⟨#[],#[],[]⟩ with heap:=((World.holding Tryz.prog os ⟨#[],#[],[]⟩).heap.modify 0 putFirst).modify 1 putAccept}
def theLaid:List (String × DataW Unit):=[("unicode/utf8.acceptRanges",Rows.laid_unicode_utf8_acceptRanges),("unicode/utf8.first",Rows.laid_unicode_utf8_first)]
theorem laid_met (os:Os)(args:Array Value):laidMet Tryz.prog theLaid ((laidWorld os).forCall (fun _ _=>0) ⟨#[],args,[]⟩).memory:=
  laidMet_of_run' 8 (by kernel_rfl) (by kernel_rfl)
theorem first_eq:Rows.laid_unicode_utf8_first=Lib.firstData:=by kernel_rfl
theorem accept_eq:(Rows.laid_unicode_utf8_acceptRanges:DataW Unit)=Lib.acceptData:=by kernel_rfl
theorem u8extra:U8Extra Tryz.prog Tryz.lays196_ren:=⟨by kernel_rfl,by kernel_rfl,by kernel_rfl,by kernel_rfl,by kernel_rfl,by kernel_rfl,by kernel_rfl⟩
theorem tabs_of {W:World}(h:laidMetH Tryz.prog theLaid W):Tabs W:=by
  rw[Go.MakeChecks.laidMetH_plain _ _ _ (by kernel_rfl)] at h
  have h1:=Lib.laidMet.reads h (.head _)
  have h2:=Lib.laidMet.reads h (.tail _ (.head _))
  rw[accept_eq] at h1
  rw[first_eq] at h2
  exact utf8Tabs_of_readsT (U8Types.of196 Tryz.lays196) u8extra h2 h1

theorem str_reach {H:Type}{P:Program}{ts:List TypeId}{ds:List (DataW H)}(hsz:(DataW.weightsEach P ts ds).all (· ≤reachBytes)=true){j:Nat}{t:TypeId}{s:ByteArray}(h1:ts[j]? =some t)(h2:ds[j]? =some (.lit (.string s.data.toList))):s.size≤140737488351232:=by
  have:=sized_string hsz h1 h2
  have e:s.data.toList.length=s.size:=Array.length_toList
  rw[e] at this
  simpa[reachBytes] using this
theorem str_small {H:Type}{ds:List (DataW H)}(hk:Rows.uptoSmall H ds=true){j:Nat}{s:ByteArray}(h2:ds[j]? =some (.lit (.string s.data.toList))):s.size≤1048576:=by
  have h1:Rows.uptoBulkAll ds≤1048576:=of_decide_eq_true hk
  have h3:=tlvc.bulk_in h2
  have e:s.data.toList.length=s.size:=Array.length_toList
  simp only[Rows.uptoBulk,e] at h3
  omega
end Go.Proofs.YtconbejjagcnkaaGreatDoor.txc
